/-
  SyGD: SyT SySa SySb SySc SyY SyV SyW, one behind the other (tools/merge.py).
-/
import Derived.Test.YtehedlgdencboabGreatDoorSyGA
import Derived.Test.YtehedlgdencboabGreatDoorSyGC
import Derived.Lib.AppendStr
import Derived.Laws.IdiomStrings
import Derived.Test.YtehedlgdencboabGreatDoorSyGB
/-
  Two rules, two commands, compared as values. Written by tools/mkSyT.py.
-/
namespace Go.Proofs.YtehedlgdencboabGreatDoor
open Go.RowKit
set_option linter.unusedVariables false
set_option linter.unusedSimpArgs false

theorem ifs0 (p : Prop) [Decidable p] (w : World) : (if p then Result.ok (Value.bool false) w else Result.ok (Value.bool true) w) = Result.ok (Value.bool (!decide p)) w := by split <;> simp [*]
theorem ifs (p : Prop) [Decidable p] (q : Bool) (w : World) (X : Result Value) (hX : X = Result.ok (Value.bool (!q)) w) : (if p then X else Result.ok (Value.bool true) w) = Result.ok (Value.bool (!(decide p && q))) w := by split <;> simp [*]
def eqRu (a b : Ru) : Bool := decide (a.i = b.i) && (decide ((a.s : Int) = (b.s : Int)) && (decide (a.sl = b.sl) && (decide ((a.d : Int) = (b.d : Int)) && (decide (a.dl = b.dl) && (decide ((a.p.1 : Int) = (b.p.1 : Int)) && (decide ((a.p.2 : Int) = (b.p.2 : Int)) && (decide ((a.q.1 : Int) = (b.q.1 : Int)) && (decide ((a.q.2 : Int) = (b.q.2 : Int)) && (decide ((a.m.1 : Int) = (b.m.1 : Int)) && (decide ((a.m.2 : Int) = (b.m.2 : Int)) && (decide (a.act = b.act))))))))))))
theorem eqRu_iff (a b : Ru) : eqRu a b = true ↔ a = b := by
  obtain ⟨a1, a2, a3, a4, a5, ⟨a6, a7⟩, ⟨a8, a9⟩, ⟨a10, a11⟩, a12⟩ := a
  obtain ⟨b1, b2, b3, b4, b5, ⟨b6, b7⟩, ⟨b8, b9⟩, ⟨b10, b11⟩, b12⟩ := b
  unfold eqRu
  simp only [Bool.and_eq_true, decide_eq_true_eq, Ru.mk.injEq, Prod.mk.injEq]
  omega
theorem eqRu_no {a b : Ru} (h : a ≠ b) : eqRu a b = false := by
  cases c : eqRu a b
  · rfl
  · exact absurd ((eqRu_iff a b).1 c) h
theorem eqRu_self (a : Ru) : eqRu a a = true := (eqRu_iff a a).2 rfl
set_option maxHeartbeats 4000000 in
set_option maxRecDepth 20000 in
theorem neRu_any (a b : Ru) (w : World) : Sem.run Tryz.prog (binOp .neq 52 (.agg #[.int .i64 a.i, .int .u32 (a.s : Int), .int .i64 a.sl, .int .u32 (a.d : Int), .int .i64 a.dl, .int .u16 (a.p.1 : Int), .int .u16 (a.p.2 : Int), .int .u16 (a.q.1 : Int), .int .u16 (a.q.2 : Int), .int .u8 (a.m.1 : Int), .int .u8 (a.m.2 : Int), .int .i64 a.act]) (.agg #[.int .i64 b.i, .int .u32 (b.s : Int), .int .i64 b.sl, .int .u32 (b.d : Int), .int .i64 b.dl, .int .u16 (b.p.1 : Int), .int .u16 (b.p.2 : Int), .int .u16 (b.q.1 : Int), .int .u16 (b.q.2 : Int), .int .u8 (b.m.1 : Int), .int .u8 (b.m.2 : Int), .int .i64 b.act])) w = .ok (.bool (!eqRu a b)) w := by
  obtain ⟨V, hV⟩ : ∃ V, V = (!eqRu a b) := ⟨_, rfl⟩
  rw [← hV]
  simp [go_sem]
  rw [hV]
  unfold eqRu
  refine ifs _ _ _ _ ?_
  refine ifs _ _ _ _ ?_
  refine ifs _ _ _ _ ?_
  refine ifs _ _ _ _ ?_
  refine ifs _ _ _ _ ?_
  refine ifs _ _ _ _ ?_
  refine ifs _ _ _ _ ?_
  refine ifs _ _ _ _ ?_
  refine ifs _ _ _ _ ?_
  refine ifs _ _ _ _ ?_
  refine ifs _ _ _ _ ?_
  exact ifs0 _ _
def eqCv (a b : Cv) : Bool := decide (a.k = b.k) && (decide (a.n = b.n) && (decide (a.i = b.i) && (decide (a.r.i = b.r.i) && (decide ((a.r.s : Int) = (b.r.s : Int)) && (decide (a.r.sl = b.r.sl) && (decide ((a.r.d : Int) = (b.r.d : Int)) && (decide (a.r.dl = b.r.dl) && (decide ((a.r.p.1 : Int) = (b.r.p.1 : Int)) && (decide ((a.r.p.2 : Int) = (b.r.p.2 : Int)) && (decide ((a.r.q.1 : Int) = (b.r.q.1 : Int)) && (decide ((a.r.q.2 : Int) = (b.r.q.2 : Int)) && (decide ((a.r.m.1 : Int) = (b.r.m.1 : Int)) && (decide ((a.r.m.2 : Int) = (b.r.m.2 : Int)) && (decide (a.r.act = b.r.act) && (decide ((a.h.1 : Int) = (b.h.1 : Int)) && (decide ((a.h.2.1 : Int) = (b.h.2.1 : Int)) && (decide ((a.h.2.2.1 : Int) = (b.h.2.2.1 : Int)) && (decide ((a.h.2.2.2.1 : Int) = (b.h.2.2.2.1 : Int)) && (decide ((a.h.2.2.2.2 : Int) = (b.h.2.2.2.2 : Int)))))))))))))))))))))
theorem eqCv_iff (a b : Cv) : eqCv a b = true ↔ a = b := by
  obtain ⟨a1, a2, a3, ⟨r1, r2, r3, r4, r5, ⟨r6, r7⟩, ⟨r8, r9⟩, ⟨r10, r11⟩, r12⟩, ⟨h1, h2, h3, h4, h5⟩⟩ := a
  obtain ⟨b1, b2, b3, ⟨s1, s2, s3, s4, s5, ⟨s6, s7⟩, ⟨s8, s9⟩, ⟨s10, s11⟩, s12⟩, ⟨g1, g2, g3, g4, g5⟩⟩ := b
  unfold eqCv
  simp only [Bool.and_eq_true, decide_eq_true_eq, Cv.mk.injEq, Ru.mk.injEq, Prod.mk.injEq]
  omega
theorem eqCv_no {a b : Cv} (h : a ≠ b) : eqCv a b = false := by
  cases c : eqCv a b
  · rfl
  · exact absurd ((eqCv_iff a b).1 c) h
theorem eqCv_self (a : Cv) : eqCv a a = true := (eqCv_iff a a).2 rfl
set_option maxHeartbeats 16000000 in
set_option maxRecDepth 20000 in
theorem neCv_any (a b : Cv) (w : World) : Sem.run Tryz.prog (binOp .neq 61 (.agg #[.int .i64 a.k, .int .i64 a.n, .int .i64 a.i, .int .i64 a.r.i, .int .u32 (a.r.s : Int), .int .i64 a.r.sl, .int .u32 (a.r.d : Int), .int .i64 a.r.dl, .int .u16 (a.r.p.1 : Int), .int .u16 (a.r.p.2 : Int), .int .u16 (a.r.q.1 : Int), .int .u16 (a.r.q.2 : Int), .int .u8 (a.r.m.1 : Int), .int .u8 (a.r.m.2 : Int), .int .i64 a.r.act, .int .u32 (a.h.1 : Int), .int .u32 (a.h.2.1 : Int), .int .u16 (a.h.2.2.1 : Int), .int .u16 (a.h.2.2.2.1 : Int), .int .u8 (a.h.2.2.2.2 : Int)]) (.agg #[.int .i64 b.k, .int .i64 b.n, .int .i64 b.i, .int .i64 b.r.i, .int .u32 (b.r.s : Int), .int .i64 b.r.sl, .int .u32 (b.r.d : Int), .int .i64 b.r.dl, .int .u16 (b.r.p.1 : Int), .int .u16 (b.r.p.2 : Int), .int .u16 (b.r.q.1 : Int), .int .u16 (b.r.q.2 : Int), .int .u8 (b.r.m.1 : Int), .int .u8 (b.r.m.2 : Int), .int .i64 b.r.act, .int .u32 (b.h.1 : Int), .int .u32 (b.h.2.1 : Int), .int .u16 (b.h.2.2.1 : Int), .int .u16 (b.h.2.2.2.1 : Int), .int .u8 (b.h.2.2.2.2 : Int)])) w = .ok (.bool (!eqCv a b)) w := by
  obtain ⟨V, hV⟩ : ∃ V, V = (!eqCv a b) := ⟨_, rfl⟩
  rw [← hV]
  simp [go_sem]
  rw [hV]
  unfold eqCv
  refine ifs _ _ _ _ ?_
  refine ifs _ _ _ _ ?_
  refine ifs _ _ _ _ ?_
  refine ifs _ _ _ _ ?_
  refine ifs _ _ _ _ ?_
  refine ifs _ _ _ _ ?_
  refine ifs _ _ _ _ ?_
  refine ifs _ _ _ _ ?_
  refine ifs _ _ _ _ ?_
  refine ifs _ _ _ _ ?_
  refine ifs _ _ _ _ ?_
  refine ifs _ _ _ _ ?_
  refine ifs _ _ _ _ ?_
  refine ifs _ _ _ _ ?_
  refine ifs _ _ _ _ ?_
  refine ifs _ _ _ _ ?_
  refine ifs _ _ _ _ ?_
  refine ifs _ _ _ _ ?_
  refine ifs _ _ _ _ ?_
  exact ifs0 _ _
end Go.Proofs.YtehedlgdencboabGreatDoor
/-
  Commands that may be printed: isNumber, withoutUsed, checkCommand. Written by tools/mkSyS.py.
-/
namespace Go.Proofs.YtehedlgdencboabGreatDoor
open Go.RowKit
set_option linter.unusedVariables false
set_option linter.unusedSimpArgs false

def ru0 : Ru := ⟨0, 0, 0, 0, 0, (0, 0), (0, 0), (0, 0), 0⟩
def isN (n : Int) : Bool := decide (0 ≤ n) && decide (n ≤ 4294967295)
theorem isNumberC (n : Int) (hn : I64 n) (w : World) : Calls Tryz.prog 38 #[.int .i64 n] w fun e w' => e = .returned (.bool (isN n)) ∧ w' = w := by
  unfold I64 at hn
  have hu : ∀ x : Int, IntKind.u64.wrap x = x % 18446744073709551616 := fun x => rfl
  unfold isN
  by_cases h0 : 0 ≤ n
  · have e : IntKind.u64.wrap n = n := by rw [hu]; omega
    rw [decide_eq_true h0, Bool.true_and]
    clear hu
    go_enter Tryz.func38, Tryz.ntmps38
    go_wp2
    go_ret
    exact ⟨rfl, rfl⟩
  · have e : IntKind.u64.wrap n = n + 18446744073709551616 := by rw [hu]; omega
    have hb : ¬ n + 18446744073709551616 ≤ 4294967295 := by omega
    rw [decide_eq_false h0, Bool.false_and]
    clear hu h0
    go_enter Tryz.func38, Tryz.ntmps38
    go_wp2
    go_ret
    exact ⟨ret_same (by simp), rfl⟩
/-- A command without the fields that its kind uses. -/
def unV (C : Cv) : Cv := if C.k = 1 then ⟨C.k, 0, C.i, ru0, C.h⟩ else if C.k = 2 then ⟨C.k, C.n, 0, C.r, C.h⟩ else if C.k = 3 then ⟨C.k, 0, 0, C.r, C.h⟩ else if C.k = 4 then ⟨C.k, C.n, C.i, C.r, (0, 0, 0, 0, 0)⟩ else C
def kindV (k : Int) : Cv := ⟨k, 0, 0, ru0, (0, 0, 0, 0, 0)⟩

set_option maxRecDepth 20000 in
set_option maxHeartbeats 8000000 in
theorem unused1 (C : Cv) (w : World) (hk : C.k = 1) :
    Calls Tryz.prog 37 #[.agg #[.int .i64 C.k, .int .i64 C.n, .int .i64 C.i, .int .i64 C.r.i, .int .u32 (C.r.s : Int), .int .i64 C.r.sl, .int .u32 (C.r.d : Int), .int .i64 C.r.dl, .int .u16 (C.r.p.1 : Int), .int .u16 (C.r.p.2 : Int), .int .u16 (C.r.q.1 : Int), .int .u16 (C.r.q.2 : Int), .int .u8 (C.r.m.1 : Int), .int .u8 (C.r.m.2 : Int), .int .i64 C.r.act, .int .u32 (C.h.1 : Int), .int .u32 (C.h.2.1 : Int), .int .u16 (C.h.2.2.1 : Int), .int .u16 (C.h.2.2.2.1 : Int), .int .u8 (C.h.2.2.2.2 : Int)]] w fun e w' => e = .returned (.agg #[.int .i64 (unV C).k, .int .i64 (unV C).n, .int .i64 (unV C).i, .int .i64 (unV C).r.i, .int .u32 ((unV C).r.s : Int), .int .i64 (unV C).r.sl, .int .u32 ((unV C).r.d : Int), .int .i64 (unV C).r.dl, .int .u16 ((unV C).r.p.1 : Int), .int .u16 ((unV C).r.p.2 : Int), .int .u16 ((unV C).r.q.1 : Int), .int .u16 ((unV C).r.q.2 : Int), .int .u8 ((unV C).r.m.1 : Int), .int .u8 ((unV C).r.m.2 : Int), .int .i64 (unV C).r.act, .int .u32 ((unV C).h.1 : Int), .int .u32 ((unV C).h.2.1 : Int), .int .u16 ((unV C).h.2.2.1 : Int), .int .u16 ((unV C).h.2.2.2.1 : Int), .int .u8 ((unV C).h.2.2.2.2 : Int)]) ∧ Below w.heap.size w w' := by
  have hu : unV C = ⟨C.k, 0, C.i, ru0, C.h⟩ := by unfold unV; rw [if_pos hk]
  rw [hu]
  clear hu
  have HX : Hid (((w.alloc (.cells #[.int .i64 1, .int .i64 C.n, .int .i64 C.i, .int .i64 C.r.i, .int .u32 (C.r.s : Int), .int .i64 C.r.sl, .int .u32 (C.r.d : Int), .int .i64 C.r.dl, .int .u16 (C.r.p.1 : Int), .int .u16 (C.r.p.2 : Int), .int .u16 (C.r.q.1 : Int), .int .u16 (C.r.q.2 : Int), .int .u8 (C.r.m.1 : Int), .int .u8 (C.r.m.2 : Int), .int .i64 C.r.act, .int .u32 (C.h.1 : Int), .int .u32 (C.h.2.1 : Int), .int .u16 (C.h.2.2.1 : Int), .int .u16 (C.h.2.2.2.1 : Int), .int .u8 (C.h.2.2.2.2 : Int)] 61)).alloc (.cells #[.int .i64 0, .int .i64 0, .int .i64 0, .int .i64 0, .int .u32 0, .int .i64 0, .int .u32 0, .int .i64 0, .int .u16 0, .int .u16 0, .int .u16 0, .int .u16 0, .int .u8 0, .int .u8 0, .int .i64 0, .int .u32 0, .int .u32 0, .int .u16 0, .int .u16 0, .int .u8 0] 61)).heap[w.heap.size]? = some (.cells #[.int .i64 1, .int .i64 C.n, .int .i64 C.i, .int .i64 C.r.i, .int .u32 (C.r.s : Int), .int .i64 C.r.sl, .int .u32 (C.r.d : Int), .int .i64 C.r.dl, .int .u16 (C.r.p.1 : Int), .int .u16 (C.r.p.2 : Int), .int .u16 (C.r.q.1 : Int), .int .u16 (C.r.q.2 : Int), .int .u8 (C.r.m.1 : Int), .int .u8 (C.r.m.2 : Int), .int .i64 C.r.act, .int .u32 (C.h.1 : Int), .int .u32 (C.h.2.1 : Int), .int .u16 (C.h.2.2.1 : Int), .int .u16 (C.h.2.2.2.1 : Int), .int .u8 (C.h.2.2.2.2 : Int)] 61)) := blk_alloc (blk_new w _) _
  have HY : Hid (((w.alloc (.cells #[.int .i64 1, .int .i64 C.n, .int .i64 C.i, .int .i64 C.r.i, .int .u32 (C.r.s : Int), .int .i64 C.r.sl, .int .u32 (C.r.d : Int), .int .i64 C.r.dl, .int .u16 (C.r.p.1 : Int), .int .u16 (C.r.p.2 : Int), .int .u16 (C.r.q.1 : Int), .int .u16 (C.r.q.2 : Int), .int .u8 (C.r.m.1 : Int), .int .u8 (C.r.m.2 : Int), .int .i64 C.r.act, .int .u32 (C.h.1 : Int), .int .u32 (C.h.2.1 : Int), .int .u16 (C.h.2.2.1 : Int), .int .u16 (C.h.2.2.2.1 : Int), .int .u8 (C.h.2.2.2.2 : Int)] 61)).alloc (.cells #[.int .i64 0, .int .i64 0, .int .i64 0, .int .i64 0, .int .u32 0, .int .i64 0, .int .u32 0, .int .i64 0, .int .u16 0, .int .u16 0, .int .u16 0, .int .u16 0, .int .u8 0, .int .u8 0, .int .i64 0, .int .u32 0, .int .u32 0, .int .u16 0, .int .u16 0, .int .u8 0] 61)).heap[w.heap.size + 1]? = some (.cells #[.int .i64 0, .int .i64 0, .int .i64 0, .int .i64 0, .int .u32 0, .int .i64 0, .int .u32 0, .int .i64 0, .int .u16 0, .int .u16 0, .int .u16 0, .int .u16 0, .int .u8 0, .int .u8 0, .int .i64 0, .int .u32 0, .int .u32 0, .int .u16 0, .int .u16 0, .int .u8 0] 61)) := blk_newN (by simp) _
  have HB : Hid (Below w.heap.size w ((w.alloc (.cells #[.int .i64 1, .int .i64 C.n, .int .i64 C.i, .int .i64 C.r.i, .int .u32 (C.r.s : Int), .int .i64 C.r.sl, .int .u32 (C.r.d : Int), .int .i64 C.r.dl, .int .u16 (C.r.p.1 : Int), .int .u16 (C.r.p.2 : Int), .int .u16 (C.r.q.1 : Int), .int .u16 (C.r.q.2 : Int), .int .u8 (C.r.m.1 : Int), .int .u8 (C.r.m.2 : Int), .int .i64 C.r.act, .int .u32 (C.h.1 : Int), .int .u32 (C.h.2.1 : Int), .int .u16 (C.h.2.2.1 : Int), .int .u16 (C.h.2.2.2.1 : Int), .int .u8 (C.h.2.2.2.2 : Int)] 61)).alloc (.cells #[.int .i64 0, .int .i64 0, .int .i64 0, .int .i64 0, .int .u32 0, .int .i64 0, .int .u32 0, .int .i64 0, .int .u16 0, .int .u16 0, .int .u16 0, .int .u16 0, .int .u8 0, .int .u8 0, .int .i64 0, .int .u32 0, .int .u32 0, .int .u16 0, .int .u16 0, .int .u8 0] 61))) := ((Below.refl _ _).alloc (Nat.le_refl _) _).alloc (by simp) _
  generalize hW0 : ((w.alloc (.cells #[.int .i64 1, .int .i64 C.n, .int .i64 C.i, .int .i64 C.r.i, .int .u32 (C.r.s : Int), .int .i64 C.r.sl, .int .u32 (C.r.d : Int), .int .i64 C.r.dl, .int .u16 (C.r.p.1 : Int), .int .u16 (C.r.p.2 : Int), .int .u16 (C.r.q.1 : Int), .int .u16 (C.r.q.2 : Int), .int .u8 (C.r.m.1 : Int), .int .u8 (C.r.m.2 : Int), .int .i64 C.r.act, .int .u32 (C.h.1 : Int), .int .u32 (C.h.2.1 : Int), .int .u16 (C.h.2.2.1 : Int), .int .u16 (C.h.2.2.2.1 : Int), .int .u8 (C.h.2.2.2.2 : Int)] 61)).alloc (.cells #[.int .i64 0, .int .i64 0, .int .i64 0, .int .i64 0, .int .u32 0, .int .i64 0, .int .u32 0, .int .i64 0, .int .u16 0, .int .u16 0, .int .u16 0, .int .u16 0, .int .u8 0, .int .u8 0, .int .i64 0, .int .u32 0, .int .u32 0, .int .u16 0, .int .u16 0, .int .u8 0] 61)) = W0 at *
  have c0 : W0.cell? ⟨w.heap.size, 0, none⟩ = some (.int .i64 1) := blk_cell HX.out rfl
  simp only [hk]
  go_enter Tryz.func37, Tryz.ntmps37
  go_upto_region 1 with (fail)
  try rw [hW0]
  clear hW0
  go_wp2_with (first | (refine wpList_store_val rfl 3 (.tmp 8) (.const (.int .i64 0)) rfl w.heap.size 1 (.int .i64 0) #[.int .i64 0] #[.int .i64 1, .int .i64 0, .int .i64 C.i, .int .i64 C.r.i, .int .u32 (C.r.s : Int), .int .i64 C.r.sl, .int .u32 (C.r.d : Int), .int .i64 C.r.dl, .int .u16 (C.r.p.1 : Int), .int .u16 (C.r.p.2 : Int), .int .u16 (C.r.q.1 : Int), .int .u16 (C.r.q.2 : Int), .int .u8 (C.r.m.1 : Int), .int .u8 (C.r.m.2 : Int), .int .i64 C.r.act, .int .u32 (C.h.1 : Int), .int .u32 (C.h.2.1 : Int), .int .u16 (C.h.2.2.1 : Int), .int .u16 (C.h.2.2.2.1 : Int), .int .u8 (C.h.2.2.2.2 : Int)] rfl rfl rfl 61 _ HX.out (Nat.le_of_ble_eq_true rfl) rfl (by kernel_rfl) rfl ?_; intro y0 hy0 ho0) | (refine wpList_store_val rfl 52 (.tmp 9) (.tmp 7) rfl w.heap.size 3 (.agg #[.int .i64 0, .int .u32 0, .int .i64 0, .int .u32 0, .int .i64 0, .int .u16 0, .int .u16 0, .int .u16 0, .int .u16 0, .int .u8 0, .int .u8 0, .int .i64 0]) #[.int .i64 0, .int .u32 0, .int .i64 0, .int .u32 0, .int .i64 0, .int .u16 0, .int .u16 0, .int .u16 0, .int .u16 0, .int .u8 0, .int .u8 0, .int .i64 0] #[.int .i64 1, .int .i64 0, .int .i64 C.i, .int .i64 0, .int .u32 0, .int .i64 0, .int .u32 0, .int .i64 0, .int .u16 0, .int .u16 0, .int .u16 0, .int .u16 0, .int .u8 0, .int .u8 0, .int .i64 0, .int .u32 (C.h.1 : Int), .int .u32 (C.h.2.1 : Int), .int .u16 (C.h.2.2.1 : Int), .int .u16 (C.h.2.2.2.1 : Int), .int .u8 (C.h.2.2.2.2 : Int)] rfl rfl rfl 61 _ hy0 (Nat.le_of_ble_eq_true rfl) rfl (by kernel_rfl) rfl ?_; intro y1 hy1 ho1) | (refine wpList_load_blk rfl 61 (.tmp 1) rfl w.heap.size #[.int .i64 1, .int .i64 0, .int .i64 C.i, .int .i64 0, .int .u32 0, .int .i64 0, .int .u32 0, .int .i64 0, .int .u16 0, .int .u16 0, .int .u16 0, .int .u16 0, .int .u8 0, .int .u8 0, .int .i64 0, .int .u32 (C.h.1 : Int), .int .u32 (C.h.2.1 : Int), .int .u16 (C.h.2.2.1 : Int), .int .u16 (C.h.2.2.2.1 : Int), .int .u8 (C.h.2.2.2.2 : Int)] rfl hy1 Tryz.underlying61 rfl (by kernel_rfl) ?_) | (refine wpList_store_blk rfl 61 (.tmp 2) (.tmp 21) rfl (w.heap.size + 1) 0 #[.int .i64 1, .int .i64 0, .int .i64 C.i, .int .i64 0, .int .u32 0, .int .i64 0, .int .u32 0, .int .i64 0, .int .u16 0, .int .u16 0, .int .u16 0, .int .u16 0, .int .u8 0, .int .u8 0, .int .i64 0, .int .u32 (C.h.1 : Int), .int .u32 (C.h.2.1 : Int), .int .u16 (C.h.2.2.1 : Int), .int .u16 (C.h.2.2.2.1 : Int), .int .u8 (C.h.2.2.2.2 : Int)] #[.int .i64 1, .int .i64 0, .int .i64 C.i, .int .i64 0, .int .u32 0, .int .i64 0, .int .u32 0, .int .i64 0, .int .u16 0, .int .u16 0, .int .u16 0, .int .u16 0, .int .u8 0, .int .u8 0, .int .i64 0, .int .u32 (C.h.1 : Int), .int .u32 (C.h.2.1 : Int), .int .u16 (C.h.2.2.1 : Int), .int .u16 (C.h.2.2.2.1 : Int), .int .u8 (C.h.2.2.2.2 : Int)] rfl rfl 61 _ (only_blk ho1 (only_blk ho0 HY.out (by omega)) (by omega)) (Nat.le_of_ble_eq_true rfl) rfl (by kernel_rfl) rfl ?_; intro wf hwf hof))
  exact bodyPost_ret (results_blk Tryz.results37 rfl hwf Tryz.underlying61 rfl (by kernel_rfl)) rfl ⟨rfl, ((HB.out.trans (ho0.below (Nat.le_refl _))).trans (ho1.below (Nat.le_refl _))).trans (hof.below (Nat.le_succ _))⟩
set_option maxRecDepth 20000 in
set_option maxHeartbeats 8000000 in
theorem unused2 (C : Cv) (w : World) (hk : C.k = 2) :
    Calls Tryz.prog 37 #[.agg #[.int .i64 C.k, .int .i64 C.n, .int .i64 C.i, .int .i64 C.r.i, .int .u32 (C.r.s : Int), .int .i64 C.r.sl, .int .u32 (C.r.d : Int), .int .i64 C.r.dl, .int .u16 (C.r.p.1 : Int), .int .u16 (C.r.p.2 : Int), .int .u16 (C.r.q.1 : Int), .int .u16 (C.r.q.2 : Int), .int .u8 (C.r.m.1 : Int), .int .u8 (C.r.m.2 : Int), .int .i64 C.r.act, .int .u32 (C.h.1 : Int), .int .u32 (C.h.2.1 : Int), .int .u16 (C.h.2.2.1 : Int), .int .u16 (C.h.2.2.2.1 : Int), .int .u8 (C.h.2.2.2.2 : Int)]] w fun e w' => e = .returned (.agg #[.int .i64 (unV C).k, .int .i64 (unV C).n, .int .i64 (unV C).i, .int .i64 (unV C).r.i, .int .u32 ((unV C).r.s : Int), .int .i64 (unV C).r.sl, .int .u32 ((unV C).r.d : Int), .int .i64 (unV C).r.dl, .int .u16 ((unV C).r.p.1 : Int), .int .u16 ((unV C).r.p.2 : Int), .int .u16 ((unV C).r.q.1 : Int), .int .u16 ((unV C).r.q.2 : Int), .int .u8 ((unV C).r.m.1 : Int), .int .u8 ((unV C).r.m.2 : Int), .int .i64 (unV C).r.act, .int .u32 ((unV C).h.1 : Int), .int .u32 ((unV C).h.2.1 : Int), .int .u16 ((unV C).h.2.2.1 : Int), .int .u16 ((unV C).h.2.2.2.1 : Int), .int .u8 ((unV C).h.2.2.2.2 : Int)]) ∧ Below w.heap.size w w' := by
  have hu : unV C = ⟨C.k, C.n, 0, C.r, C.h⟩ := by unfold unV; rw [if_neg (by omega), if_pos hk]
  rw [hu]
  clear hu
  have HX : Hid (((w.alloc (.cells #[.int .i64 2, .int .i64 C.n, .int .i64 C.i, .int .i64 C.r.i, .int .u32 (C.r.s : Int), .int .i64 C.r.sl, .int .u32 (C.r.d : Int), .int .i64 C.r.dl, .int .u16 (C.r.p.1 : Int), .int .u16 (C.r.p.2 : Int), .int .u16 (C.r.q.1 : Int), .int .u16 (C.r.q.2 : Int), .int .u8 (C.r.m.1 : Int), .int .u8 (C.r.m.2 : Int), .int .i64 C.r.act, .int .u32 (C.h.1 : Int), .int .u32 (C.h.2.1 : Int), .int .u16 (C.h.2.2.1 : Int), .int .u16 (C.h.2.2.2.1 : Int), .int .u8 (C.h.2.2.2.2 : Int)] 61)).alloc (.cells #[.int .i64 0, .int .i64 0, .int .i64 0, .int .i64 0, .int .u32 0, .int .i64 0, .int .u32 0, .int .i64 0, .int .u16 0, .int .u16 0, .int .u16 0, .int .u16 0, .int .u8 0, .int .u8 0, .int .i64 0, .int .u32 0, .int .u32 0, .int .u16 0, .int .u16 0, .int .u8 0] 61)).heap[w.heap.size]? = some (.cells #[.int .i64 2, .int .i64 C.n, .int .i64 C.i, .int .i64 C.r.i, .int .u32 (C.r.s : Int), .int .i64 C.r.sl, .int .u32 (C.r.d : Int), .int .i64 C.r.dl, .int .u16 (C.r.p.1 : Int), .int .u16 (C.r.p.2 : Int), .int .u16 (C.r.q.1 : Int), .int .u16 (C.r.q.2 : Int), .int .u8 (C.r.m.1 : Int), .int .u8 (C.r.m.2 : Int), .int .i64 C.r.act, .int .u32 (C.h.1 : Int), .int .u32 (C.h.2.1 : Int), .int .u16 (C.h.2.2.1 : Int), .int .u16 (C.h.2.2.2.1 : Int), .int .u8 (C.h.2.2.2.2 : Int)] 61)) := blk_alloc (blk_new w _) _
  have HY : Hid (((w.alloc (.cells #[.int .i64 2, .int .i64 C.n, .int .i64 C.i, .int .i64 C.r.i, .int .u32 (C.r.s : Int), .int .i64 C.r.sl, .int .u32 (C.r.d : Int), .int .i64 C.r.dl, .int .u16 (C.r.p.1 : Int), .int .u16 (C.r.p.2 : Int), .int .u16 (C.r.q.1 : Int), .int .u16 (C.r.q.2 : Int), .int .u8 (C.r.m.1 : Int), .int .u8 (C.r.m.2 : Int), .int .i64 C.r.act, .int .u32 (C.h.1 : Int), .int .u32 (C.h.2.1 : Int), .int .u16 (C.h.2.2.1 : Int), .int .u16 (C.h.2.2.2.1 : Int), .int .u8 (C.h.2.2.2.2 : Int)] 61)).alloc (.cells #[.int .i64 0, .int .i64 0, .int .i64 0, .int .i64 0, .int .u32 0, .int .i64 0, .int .u32 0, .int .i64 0, .int .u16 0, .int .u16 0, .int .u16 0, .int .u16 0, .int .u8 0, .int .u8 0, .int .i64 0, .int .u32 0, .int .u32 0, .int .u16 0, .int .u16 0, .int .u8 0] 61)).heap[w.heap.size + 1]? = some (.cells #[.int .i64 0, .int .i64 0, .int .i64 0, .int .i64 0, .int .u32 0, .int .i64 0, .int .u32 0, .int .i64 0, .int .u16 0, .int .u16 0, .int .u16 0, .int .u16 0, .int .u8 0, .int .u8 0, .int .i64 0, .int .u32 0, .int .u32 0, .int .u16 0, .int .u16 0, .int .u8 0] 61)) := blk_newN (by simp) _
  have HB : Hid (Below w.heap.size w ((w.alloc (.cells #[.int .i64 2, .int .i64 C.n, .int .i64 C.i, .int .i64 C.r.i, .int .u32 (C.r.s : Int), .int .i64 C.r.sl, .int .u32 (C.r.d : Int), .int .i64 C.r.dl, .int .u16 (C.r.p.1 : Int), .int .u16 (C.r.p.2 : Int), .int .u16 (C.r.q.1 : Int), .int .u16 (C.r.q.2 : Int), .int .u8 (C.r.m.1 : Int), .int .u8 (C.r.m.2 : Int), .int .i64 C.r.act, .int .u32 (C.h.1 : Int), .int .u32 (C.h.2.1 : Int), .int .u16 (C.h.2.2.1 : Int), .int .u16 (C.h.2.2.2.1 : Int), .int .u8 (C.h.2.2.2.2 : Int)] 61)).alloc (.cells #[.int .i64 0, .int .i64 0, .int .i64 0, .int .i64 0, .int .u32 0, .int .i64 0, .int .u32 0, .int .i64 0, .int .u16 0, .int .u16 0, .int .u16 0, .int .u16 0, .int .u8 0, .int .u8 0, .int .i64 0, .int .u32 0, .int .u32 0, .int .u16 0, .int .u16 0, .int .u8 0] 61))) := ((Below.refl _ _).alloc (Nat.le_refl _) _).alloc (by simp) _
  generalize hW0 : ((w.alloc (.cells #[.int .i64 2, .int .i64 C.n, .int .i64 C.i, .int .i64 C.r.i, .int .u32 (C.r.s : Int), .int .i64 C.r.sl, .int .u32 (C.r.d : Int), .int .i64 C.r.dl, .int .u16 (C.r.p.1 : Int), .int .u16 (C.r.p.2 : Int), .int .u16 (C.r.q.1 : Int), .int .u16 (C.r.q.2 : Int), .int .u8 (C.r.m.1 : Int), .int .u8 (C.r.m.2 : Int), .int .i64 C.r.act, .int .u32 (C.h.1 : Int), .int .u32 (C.h.2.1 : Int), .int .u16 (C.h.2.2.1 : Int), .int .u16 (C.h.2.2.2.1 : Int), .int .u8 (C.h.2.2.2.2 : Int)] 61)).alloc (.cells #[.int .i64 0, .int .i64 0, .int .i64 0, .int .i64 0, .int .u32 0, .int .i64 0, .int .u32 0, .int .i64 0, .int .u16 0, .int .u16 0, .int .u16 0, .int .u16 0, .int .u8 0, .int .u8 0, .int .i64 0, .int .u32 0, .int .u32 0, .int .u16 0, .int .u16 0, .int .u8 0] 61)) = W0 at *
  have c0 : W0.cell? ⟨w.heap.size, 0, none⟩ = some (.int .i64 2) := blk_cell HX.out rfl
  simp only [hk]
  go_enter Tryz.func37, Tryz.ntmps37
  go_upto_region 1 with (fail)
  try rw [hW0]
  clear hW0
  go_wp2_with (first | (refine wpList_store_val rfl 3 (.tmp 12) (.const (.int .i64 0)) rfl w.heap.size 2 (.int .i64 0) #[.int .i64 0] #[.int .i64 2, .int .i64 C.n, .int .i64 0, .int .i64 C.r.i, .int .u32 (C.r.s : Int), .int .i64 C.r.sl, .int .u32 (C.r.d : Int), .int .i64 C.r.dl, .int .u16 (C.r.p.1 : Int), .int .u16 (C.r.p.2 : Int), .int .u16 (C.r.q.1 : Int), .int .u16 (C.r.q.2 : Int), .int .u8 (C.r.m.1 : Int), .int .u8 (C.r.m.2 : Int), .int .i64 C.r.act, .int .u32 (C.h.1 : Int), .int .u32 (C.h.2.1 : Int), .int .u16 (C.h.2.2.1 : Int), .int .u16 (C.h.2.2.2.1 : Int), .int .u8 (C.h.2.2.2.2 : Int)] rfl rfl rfl 61 _ HX.out (Nat.le_of_ble_eq_true rfl) rfl (by kernel_rfl) rfl ?_; intro y0 hy0 ho0) | (refine wpList_load_blk rfl 61 (.tmp 1) rfl w.heap.size #[.int .i64 2, .int .i64 C.n, .int .i64 0, .int .i64 C.r.i, .int .u32 (C.r.s : Int), .int .i64 C.r.sl, .int .u32 (C.r.d : Int), .int .i64 C.r.dl, .int .u16 (C.r.p.1 : Int), .int .u16 (C.r.p.2 : Int), .int .u16 (C.r.q.1 : Int), .int .u16 (C.r.q.2 : Int), .int .u8 (C.r.m.1 : Int), .int .u8 (C.r.m.2 : Int), .int .i64 C.r.act, .int .u32 (C.h.1 : Int), .int .u32 (C.h.2.1 : Int), .int .u16 (C.h.2.2.1 : Int), .int .u16 (C.h.2.2.2.1 : Int), .int .u8 (C.h.2.2.2.2 : Int)] rfl hy0 Tryz.underlying61 rfl (by kernel_rfl) ?_) | (refine wpList_store_blk rfl 61 (.tmp 2) (.tmp 21) rfl (w.heap.size + 1) 0 #[.int .i64 2, .int .i64 C.n, .int .i64 0, .int .i64 C.r.i, .int .u32 (C.r.s : Int), .int .i64 C.r.sl, .int .u32 (C.r.d : Int), .int .i64 C.r.dl, .int .u16 (C.r.p.1 : Int), .int .u16 (C.r.p.2 : Int), .int .u16 (C.r.q.1 : Int), .int .u16 (C.r.q.2 : Int), .int .u8 (C.r.m.1 : Int), .int .u8 (C.r.m.2 : Int), .int .i64 C.r.act, .int .u32 (C.h.1 : Int), .int .u32 (C.h.2.1 : Int), .int .u16 (C.h.2.2.1 : Int), .int .u16 (C.h.2.2.2.1 : Int), .int .u8 (C.h.2.2.2.2 : Int)] #[.int .i64 2, .int .i64 C.n, .int .i64 0, .int .i64 C.r.i, .int .u32 (C.r.s : Int), .int .i64 C.r.sl, .int .u32 (C.r.d : Int), .int .i64 C.r.dl, .int .u16 (C.r.p.1 : Int), .int .u16 (C.r.p.2 : Int), .int .u16 (C.r.q.1 : Int), .int .u16 (C.r.q.2 : Int), .int .u8 (C.r.m.1 : Int), .int .u8 (C.r.m.2 : Int), .int .i64 C.r.act, .int .u32 (C.h.1 : Int), .int .u32 (C.h.2.1 : Int), .int .u16 (C.h.2.2.1 : Int), .int .u16 (C.h.2.2.2.1 : Int), .int .u8 (C.h.2.2.2.2 : Int)] rfl rfl 61 _ (only_blk ho0 HY.out (by omega)) (Nat.le_of_ble_eq_true rfl) rfl (by kernel_rfl) rfl ?_; intro wf hwf hof))
  exact bodyPost_ret (results_blk Tryz.results37 rfl hwf Tryz.underlying61 rfl (by kernel_rfl)) rfl ⟨rfl, (HB.out.trans (ho0.below (Nat.le_refl _))).trans (hof.below (Nat.le_succ _))⟩
set_option maxRecDepth 20000 in
set_option maxHeartbeats 8000000 in
theorem unused3 (C : Cv) (w : World) (hk : C.k = 3) :
    Calls Tryz.prog 37 #[.agg #[.int .i64 C.k, .int .i64 C.n, .int .i64 C.i, .int .i64 C.r.i, .int .u32 (C.r.s : Int), .int .i64 C.r.sl, .int .u32 (C.r.d : Int), .int .i64 C.r.dl, .int .u16 (C.r.p.1 : Int), .int .u16 (C.r.p.2 : Int), .int .u16 (C.r.q.1 : Int), .int .u16 (C.r.q.2 : Int), .int .u8 (C.r.m.1 : Int), .int .u8 (C.r.m.2 : Int), .int .i64 C.r.act, .int .u32 (C.h.1 : Int), .int .u32 (C.h.2.1 : Int), .int .u16 (C.h.2.2.1 : Int), .int .u16 (C.h.2.2.2.1 : Int), .int .u8 (C.h.2.2.2.2 : Int)]] w fun e w' => e = .returned (.agg #[.int .i64 (unV C).k, .int .i64 (unV C).n, .int .i64 (unV C).i, .int .i64 (unV C).r.i, .int .u32 ((unV C).r.s : Int), .int .i64 (unV C).r.sl, .int .u32 ((unV C).r.d : Int), .int .i64 (unV C).r.dl, .int .u16 ((unV C).r.p.1 : Int), .int .u16 ((unV C).r.p.2 : Int), .int .u16 ((unV C).r.q.1 : Int), .int .u16 ((unV C).r.q.2 : Int), .int .u8 ((unV C).r.m.1 : Int), .int .u8 ((unV C).r.m.2 : Int), .int .i64 (unV C).r.act, .int .u32 ((unV C).h.1 : Int), .int .u32 ((unV C).h.2.1 : Int), .int .u16 ((unV C).h.2.2.1 : Int), .int .u16 ((unV C).h.2.2.2.1 : Int), .int .u8 ((unV C).h.2.2.2.2 : Int)]) ∧ Below w.heap.size w w' := by
  have hu : unV C = ⟨C.k, 0, 0, C.r, C.h⟩ := by unfold unV; rw [if_neg (by omega), if_neg (by omega), if_pos hk]
  rw [hu]
  clear hu
  have HX : Hid (((w.alloc (.cells #[.int .i64 3, .int .i64 C.n, .int .i64 C.i, .int .i64 C.r.i, .int .u32 (C.r.s : Int), .int .i64 C.r.sl, .int .u32 (C.r.d : Int), .int .i64 C.r.dl, .int .u16 (C.r.p.1 : Int), .int .u16 (C.r.p.2 : Int), .int .u16 (C.r.q.1 : Int), .int .u16 (C.r.q.2 : Int), .int .u8 (C.r.m.1 : Int), .int .u8 (C.r.m.2 : Int), .int .i64 C.r.act, .int .u32 (C.h.1 : Int), .int .u32 (C.h.2.1 : Int), .int .u16 (C.h.2.2.1 : Int), .int .u16 (C.h.2.2.2.1 : Int), .int .u8 (C.h.2.2.2.2 : Int)] 61)).alloc (.cells #[.int .i64 0, .int .i64 0, .int .i64 0, .int .i64 0, .int .u32 0, .int .i64 0, .int .u32 0, .int .i64 0, .int .u16 0, .int .u16 0, .int .u16 0, .int .u16 0, .int .u8 0, .int .u8 0, .int .i64 0, .int .u32 0, .int .u32 0, .int .u16 0, .int .u16 0, .int .u8 0] 61)).heap[w.heap.size]? = some (.cells #[.int .i64 3, .int .i64 C.n, .int .i64 C.i, .int .i64 C.r.i, .int .u32 (C.r.s : Int), .int .i64 C.r.sl, .int .u32 (C.r.d : Int), .int .i64 C.r.dl, .int .u16 (C.r.p.1 : Int), .int .u16 (C.r.p.2 : Int), .int .u16 (C.r.q.1 : Int), .int .u16 (C.r.q.2 : Int), .int .u8 (C.r.m.1 : Int), .int .u8 (C.r.m.2 : Int), .int .i64 C.r.act, .int .u32 (C.h.1 : Int), .int .u32 (C.h.2.1 : Int), .int .u16 (C.h.2.2.1 : Int), .int .u16 (C.h.2.2.2.1 : Int), .int .u8 (C.h.2.2.2.2 : Int)] 61)) := blk_alloc (blk_new w _) _
  have HY : Hid (((w.alloc (.cells #[.int .i64 3, .int .i64 C.n, .int .i64 C.i, .int .i64 C.r.i, .int .u32 (C.r.s : Int), .int .i64 C.r.sl, .int .u32 (C.r.d : Int), .int .i64 C.r.dl, .int .u16 (C.r.p.1 : Int), .int .u16 (C.r.p.2 : Int), .int .u16 (C.r.q.1 : Int), .int .u16 (C.r.q.2 : Int), .int .u8 (C.r.m.1 : Int), .int .u8 (C.r.m.2 : Int), .int .i64 C.r.act, .int .u32 (C.h.1 : Int), .int .u32 (C.h.2.1 : Int), .int .u16 (C.h.2.2.1 : Int), .int .u16 (C.h.2.2.2.1 : Int), .int .u8 (C.h.2.2.2.2 : Int)] 61)).alloc (.cells #[.int .i64 0, .int .i64 0, .int .i64 0, .int .i64 0, .int .u32 0, .int .i64 0, .int .u32 0, .int .i64 0, .int .u16 0, .int .u16 0, .int .u16 0, .int .u16 0, .int .u8 0, .int .u8 0, .int .i64 0, .int .u32 0, .int .u32 0, .int .u16 0, .int .u16 0, .int .u8 0] 61)).heap[w.heap.size + 1]? = some (.cells #[.int .i64 0, .int .i64 0, .int .i64 0, .int .i64 0, .int .u32 0, .int .i64 0, .int .u32 0, .int .i64 0, .int .u16 0, .int .u16 0, .int .u16 0, .int .u16 0, .int .u8 0, .int .u8 0, .int .i64 0, .int .u32 0, .int .u32 0, .int .u16 0, .int .u16 0, .int .u8 0] 61)) := blk_newN (by simp) _
  have HB : Hid (Below w.heap.size w ((w.alloc (.cells #[.int .i64 3, .int .i64 C.n, .int .i64 C.i, .int .i64 C.r.i, .int .u32 (C.r.s : Int), .int .i64 C.r.sl, .int .u32 (C.r.d : Int), .int .i64 C.r.dl, .int .u16 (C.r.p.1 : Int), .int .u16 (C.r.p.2 : Int), .int .u16 (C.r.q.1 : Int), .int .u16 (C.r.q.2 : Int), .int .u8 (C.r.m.1 : Int), .int .u8 (C.r.m.2 : Int), .int .i64 C.r.act, .int .u32 (C.h.1 : Int), .int .u32 (C.h.2.1 : Int), .int .u16 (C.h.2.2.1 : Int), .int .u16 (C.h.2.2.2.1 : Int), .int .u8 (C.h.2.2.2.2 : Int)] 61)).alloc (.cells #[.int .i64 0, .int .i64 0, .int .i64 0, .int .i64 0, .int .u32 0, .int .i64 0, .int .u32 0, .int .i64 0, .int .u16 0, .int .u16 0, .int .u16 0, .int .u16 0, .int .u8 0, .int .u8 0, .int .i64 0, .int .u32 0, .int .u32 0, .int .u16 0, .int .u16 0, .int .u8 0] 61))) := ((Below.refl _ _).alloc (Nat.le_refl _) _).alloc (by simp) _
  generalize hW0 : ((w.alloc (.cells #[.int .i64 3, .int .i64 C.n, .int .i64 C.i, .int .i64 C.r.i, .int .u32 (C.r.s : Int), .int .i64 C.r.sl, .int .u32 (C.r.d : Int), .int .i64 C.r.dl, .int .u16 (C.r.p.1 : Int), .int .u16 (C.r.p.2 : Int), .int .u16 (C.r.q.1 : Int), .int .u16 (C.r.q.2 : Int), .int .u8 (C.r.m.1 : Int), .int .u8 (C.r.m.2 : Int), .int .i64 C.r.act, .int .u32 (C.h.1 : Int), .int .u32 (C.h.2.1 : Int), .int .u16 (C.h.2.2.1 : Int), .int .u16 (C.h.2.2.2.1 : Int), .int .u8 (C.h.2.2.2.2 : Int)] 61)).alloc (.cells #[.int .i64 0, .int .i64 0, .int .i64 0, .int .i64 0, .int .u32 0, .int .i64 0, .int .u32 0, .int .i64 0, .int .u16 0, .int .u16 0, .int .u16 0, .int .u16 0, .int .u8 0, .int .u8 0, .int .i64 0, .int .u32 0, .int .u32 0, .int .u16 0, .int .u16 0, .int .u8 0] 61)) = W0 at *
  have c0 : W0.cell? ⟨w.heap.size, 0, none⟩ = some (.int .i64 3) := blk_cell HX.out rfl
  simp only [hk]
  go_enter Tryz.func37, Tryz.ntmps37
  go_upto_region 1 with (fail)
  try rw [hW0]
  clear hW0
  go_wp2_with (first | (refine wpList_store_val rfl 3 (.tmp 15) (.const (.int .i64 0)) rfl w.heap.size 2 (.int .i64 0) #[.int .i64 0] #[.int .i64 3, .int .i64 C.n, .int .i64 0, .int .i64 C.r.i, .int .u32 (C.r.s : Int), .int .i64 C.r.sl, .int .u32 (C.r.d : Int), .int .i64 C.r.dl, .int .u16 (C.r.p.1 : Int), .int .u16 (C.r.p.2 : Int), .int .u16 (C.r.q.1 : Int), .int .u16 (C.r.q.2 : Int), .int .u8 (C.r.m.1 : Int), .int .u8 (C.r.m.2 : Int), .int .i64 C.r.act, .int .u32 (C.h.1 : Int), .int .u32 (C.h.2.1 : Int), .int .u16 (C.h.2.2.1 : Int), .int .u16 (C.h.2.2.2.1 : Int), .int .u8 (C.h.2.2.2.2 : Int)] rfl rfl rfl 61 _ HX.out (Nat.le_of_ble_eq_true rfl) rfl (by kernel_rfl) rfl ?_; intro y0 hy0 ho0) | (refine wpList_store_val rfl 3 (.tmp 16) (.const (.int .i64 0)) rfl w.heap.size 1 (.int .i64 0) #[.int .i64 0] #[.int .i64 3, .int .i64 0, .int .i64 0, .int .i64 C.r.i, .int .u32 (C.r.s : Int), .int .i64 C.r.sl, .int .u32 (C.r.d : Int), .int .i64 C.r.dl, .int .u16 (C.r.p.1 : Int), .int .u16 (C.r.p.2 : Int), .int .u16 (C.r.q.1 : Int), .int .u16 (C.r.q.2 : Int), .int .u8 (C.r.m.1 : Int), .int .u8 (C.r.m.2 : Int), .int .i64 C.r.act, .int .u32 (C.h.1 : Int), .int .u32 (C.h.2.1 : Int), .int .u16 (C.h.2.2.1 : Int), .int .u16 (C.h.2.2.2.1 : Int), .int .u8 (C.h.2.2.2.2 : Int)] rfl rfl rfl 61 _ hy0 (Nat.le_of_ble_eq_true rfl) rfl (by kernel_rfl) rfl ?_; intro y1 hy1 ho1) | (refine wpList_load_blk rfl 61 (.tmp 1) rfl w.heap.size #[.int .i64 3, .int .i64 0, .int .i64 0, .int .i64 C.r.i, .int .u32 (C.r.s : Int), .int .i64 C.r.sl, .int .u32 (C.r.d : Int), .int .i64 C.r.dl, .int .u16 (C.r.p.1 : Int), .int .u16 (C.r.p.2 : Int), .int .u16 (C.r.q.1 : Int), .int .u16 (C.r.q.2 : Int), .int .u8 (C.r.m.1 : Int), .int .u8 (C.r.m.2 : Int), .int .i64 C.r.act, .int .u32 (C.h.1 : Int), .int .u32 (C.h.2.1 : Int), .int .u16 (C.h.2.2.1 : Int), .int .u16 (C.h.2.2.2.1 : Int), .int .u8 (C.h.2.2.2.2 : Int)] rfl hy1 Tryz.underlying61 rfl (by kernel_rfl) ?_) | (refine wpList_store_blk rfl 61 (.tmp 2) (.tmp 21) rfl (w.heap.size + 1) 0 #[.int .i64 3, .int .i64 0, .int .i64 0, .int .i64 C.r.i, .int .u32 (C.r.s : Int), .int .i64 C.r.sl, .int .u32 (C.r.d : Int), .int .i64 C.r.dl, .int .u16 (C.r.p.1 : Int), .int .u16 (C.r.p.2 : Int), .int .u16 (C.r.q.1 : Int), .int .u16 (C.r.q.2 : Int), .int .u8 (C.r.m.1 : Int), .int .u8 (C.r.m.2 : Int), .int .i64 C.r.act, .int .u32 (C.h.1 : Int), .int .u32 (C.h.2.1 : Int), .int .u16 (C.h.2.2.1 : Int), .int .u16 (C.h.2.2.2.1 : Int), .int .u8 (C.h.2.2.2.2 : Int)] #[.int .i64 3, .int .i64 0, .int .i64 0, .int .i64 C.r.i, .int .u32 (C.r.s : Int), .int .i64 C.r.sl, .int .u32 (C.r.d : Int), .int .i64 C.r.dl, .int .u16 (C.r.p.1 : Int), .int .u16 (C.r.p.2 : Int), .int .u16 (C.r.q.1 : Int), .int .u16 (C.r.q.2 : Int), .int .u8 (C.r.m.1 : Int), .int .u8 (C.r.m.2 : Int), .int .i64 C.r.act, .int .u32 (C.h.1 : Int), .int .u32 (C.h.2.1 : Int), .int .u16 (C.h.2.2.1 : Int), .int .u16 (C.h.2.2.2.1 : Int), .int .u8 (C.h.2.2.2.2 : Int)] rfl rfl 61 _ (only_blk ho1 (only_blk ho0 HY.out (by omega)) (by omega)) (Nat.le_of_ble_eq_true rfl) rfl (by kernel_rfl) rfl ?_; intro wf hwf hof))
  exact bodyPost_ret (results_blk Tryz.results37 rfl hwf Tryz.underlying61 rfl (by kernel_rfl)) rfl ⟨rfl, ((HB.out.trans (ho0.below (Nat.le_refl _))).trans (ho1.below (Nat.le_refl _))).trans (hof.below (Nat.le_succ _))⟩
set_option maxRecDepth 20000 in
set_option maxHeartbeats 8000000 in
theorem unused4 (C : Cv) (w : World) (hk : C.k = 4) :
    Calls Tryz.prog 37 #[.agg #[.int .i64 C.k, .int .i64 C.n, .int .i64 C.i, .int .i64 C.r.i, .int .u32 (C.r.s : Int), .int .i64 C.r.sl, .int .u32 (C.r.d : Int), .int .i64 C.r.dl, .int .u16 (C.r.p.1 : Int), .int .u16 (C.r.p.2 : Int), .int .u16 (C.r.q.1 : Int), .int .u16 (C.r.q.2 : Int), .int .u8 (C.r.m.1 : Int), .int .u8 (C.r.m.2 : Int), .int .i64 C.r.act, .int .u32 (C.h.1 : Int), .int .u32 (C.h.2.1 : Int), .int .u16 (C.h.2.2.1 : Int), .int .u16 (C.h.2.2.2.1 : Int), .int .u8 (C.h.2.2.2.2 : Int)]] w fun e w' => e = .returned (.agg #[.int .i64 (unV C).k, .int .i64 (unV C).n, .int .i64 (unV C).i, .int .i64 (unV C).r.i, .int .u32 ((unV C).r.s : Int), .int .i64 (unV C).r.sl, .int .u32 ((unV C).r.d : Int), .int .i64 (unV C).r.dl, .int .u16 ((unV C).r.p.1 : Int), .int .u16 ((unV C).r.p.2 : Int), .int .u16 ((unV C).r.q.1 : Int), .int .u16 ((unV C).r.q.2 : Int), .int .u8 ((unV C).r.m.1 : Int), .int .u8 ((unV C).r.m.2 : Int), .int .i64 (unV C).r.act, .int .u32 ((unV C).h.1 : Int), .int .u32 ((unV C).h.2.1 : Int), .int .u16 ((unV C).h.2.2.1 : Int), .int .u16 ((unV C).h.2.2.2.1 : Int), .int .u8 ((unV C).h.2.2.2.2 : Int)]) ∧ Below w.heap.size w w' := by
  have hu : unV C = ⟨C.k, C.n, C.i, C.r, (0, 0, 0, 0, 0)⟩ := by unfold unV; rw [if_neg (by omega), if_neg (by omega), if_neg (by omega), if_pos hk]
  rw [hu]
  clear hu
  have HX : Hid (((w.alloc (.cells #[.int .i64 4, .int .i64 C.n, .int .i64 C.i, .int .i64 C.r.i, .int .u32 (C.r.s : Int), .int .i64 C.r.sl, .int .u32 (C.r.d : Int), .int .i64 C.r.dl, .int .u16 (C.r.p.1 : Int), .int .u16 (C.r.p.2 : Int), .int .u16 (C.r.q.1 : Int), .int .u16 (C.r.q.2 : Int), .int .u8 (C.r.m.1 : Int), .int .u8 (C.r.m.2 : Int), .int .i64 C.r.act, .int .u32 (C.h.1 : Int), .int .u32 (C.h.2.1 : Int), .int .u16 (C.h.2.2.1 : Int), .int .u16 (C.h.2.2.2.1 : Int), .int .u8 (C.h.2.2.2.2 : Int)] 61)).alloc (.cells #[.int .i64 0, .int .i64 0, .int .i64 0, .int .i64 0, .int .u32 0, .int .i64 0, .int .u32 0, .int .i64 0, .int .u16 0, .int .u16 0, .int .u16 0, .int .u16 0, .int .u8 0, .int .u8 0, .int .i64 0, .int .u32 0, .int .u32 0, .int .u16 0, .int .u16 0, .int .u8 0] 61)).heap[w.heap.size]? = some (.cells #[.int .i64 4, .int .i64 C.n, .int .i64 C.i, .int .i64 C.r.i, .int .u32 (C.r.s : Int), .int .i64 C.r.sl, .int .u32 (C.r.d : Int), .int .i64 C.r.dl, .int .u16 (C.r.p.1 : Int), .int .u16 (C.r.p.2 : Int), .int .u16 (C.r.q.1 : Int), .int .u16 (C.r.q.2 : Int), .int .u8 (C.r.m.1 : Int), .int .u8 (C.r.m.2 : Int), .int .i64 C.r.act, .int .u32 (C.h.1 : Int), .int .u32 (C.h.2.1 : Int), .int .u16 (C.h.2.2.1 : Int), .int .u16 (C.h.2.2.2.1 : Int), .int .u8 (C.h.2.2.2.2 : Int)] 61)) := blk_alloc (blk_new w _) _
  have HY : Hid (((w.alloc (.cells #[.int .i64 4, .int .i64 C.n, .int .i64 C.i, .int .i64 C.r.i, .int .u32 (C.r.s : Int), .int .i64 C.r.sl, .int .u32 (C.r.d : Int), .int .i64 C.r.dl, .int .u16 (C.r.p.1 : Int), .int .u16 (C.r.p.2 : Int), .int .u16 (C.r.q.1 : Int), .int .u16 (C.r.q.2 : Int), .int .u8 (C.r.m.1 : Int), .int .u8 (C.r.m.2 : Int), .int .i64 C.r.act, .int .u32 (C.h.1 : Int), .int .u32 (C.h.2.1 : Int), .int .u16 (C.h.2.2.1 : Int), .int .u16 (C.h.2.2.2.1 : Int), .int .u8 (C.h.2.2.2.2 : Int)] 61)).alloc (.cells #[.int .i64 0, .int .i64 0, .int .i64 0, .int .i64 0, .int .u32 0, .int .i64 0, .int .u32 0, .int .i64 0, .int .u16 0, .int .u16 0, .int .u16 0, .int .u16 0, .int .u8 0, .int .u8 0, .int .i64 0, .int .u32 0, .int .u32 0, .int .u16 0, .int .u16 0, .int .u8 0] 61)).heap[w.heap.size + 1]? = some (.cells #[.int .i64 0, .int .i64 0, .int .i64 0, .int .i64 0, .int .u32 0, .int .i64 0, .int .u32 0, .int .i64 0, .int .u16 0, .int .u16 0, .int .u16 0, .int .u16 0, .int .u8 0, .int .u8 0, .int .i64 0, .int .u32 0, .int .u32 0, .int .u16 0, .int .u16 0, .int .u8 0] 61)) := blk_newN (by simp) _
  have HB : Hid (Below w.heap.size w ((w.alloc (.cells #[.int .i64 4, .int .i64 C.n, .int .i64 C.i, .int .i64 C.r.i, .int .u32 (C.r.s : Int), .int .i64 C.r.sl, .int .u32 (C.r.d : Int), .int .i64 C.r.dl, .int .u16 (C.r.p.1 : Int), .int .u16 (C.r.p.2 : Int), .int .u16 (C.r.q.1 : Int), .int .u16 (C.r.q.2 : Int), .int .u8 (C.r.m.1 : Int), .int .u8 (C.r.m.2 : Int), .int .i64 C.r.act, .int .u32 (C.h.1 : Int), .int .u32 (C.h.2.1 : Int), .int .u16 (C.h.2.2.1 : Int), .int .u16 (C.h.2.2.2.1 : Int), .int .u8 (C.h.2.2.2.2 : Int)] 61)).alloc (.cells #[.int .i64 0, .int .i64 0, .int .i64 0, .int .i64 0, .int .u32 0, .int .i64 0, .int .u32 0, .int .i64 0, .int .u16 0, .int .u16 0, .int .u16 0, .int .u16 0, .int .u8 0, .int .u8 0, .int .i64 0, .int .u32 0, .int .u32 0, .int .u16 0, .int .u16 0, .int .u8 0] 61))) := ((Below.refl _ _).alloc (Nat.le_refl _) _).alloc (by simp) _
  generalize hW0 : ((w.alloc (.cells #[.int .i64 4, .int .i64 C.n, .int .i64 C.i, .int .i64 C.r.i, .int .u32 (C.r.s : Int), .int .i64 C.r.sl, .int .u32 (C.r.d : Int), .int .i64 C.r.dl, .int .u16 (C.r.p.1 : Int), .int .u16 (C.r.p.2 : Int), .int .u16 (C.r.q.1 : Int), .int .u16 (C.r.q.2 : Int), .int .u8 (C.r.m.1 : Int), .int .u8 (C.r.m.2 : Int), .int .i64 C.r.act, .int .u32 (C.h.1 : Int), .int .u32 (C.h.2.1 : Int), .int .u16 (C.h.2.2.1 : Int), .int .u16 (C.h.2.2.2.1 : Int), .int .u8 (C.h.2.2.2.2 : Int)] 61)).alloc (.cells #[.int .i64 0, .int .i64 0, .int .i64 0, .int .i64 0, .int .u32 0, .int .i64 0, .int .u32 0, .int .i64 0, .int .u16 0, .int .u16 0, .int .u16 0, .int .u16 0, .int .u8 0, .int .u8 0, .int .i64 0, .int .u32 0, .int .u32 0, .int .u16 0, .int .u16 0, .int .u8 0] 61)) = W0 at *
  have c0 : W0.cell? ⟨w.heap.size, 0, none⟩ = some (.int .i64 4) := blk_cell HX.out rfl
  simp only [hk]
  go_enter Tryz.func37, Tryz.ntmps37
  go_upto_region 1 with (fail)
  try rw [hW0]
  clear hW0
  go_wp2_with (first | (refine wpList_store_val rfl 56 (.tmp 20) (.tmp 19) rfl w.heap.size 15 (.agg #[.int .u32 0, .int .u32 0, .int .u16 0, .int .u16 0, .int .u8 0]) #[.int .u32 0, .int .u32 0, .int .u16 0, .int .u16 0, .int .u8 0] #[.int .i64 4, .int .i64 C.n, .int .i64 C.i, .int .i64 C.r.i, .int .u32 (C.r.s : Int), .int .i64 C.r.sl, .int .u32 (C.r.d : Int), .int .i64 C.r.dl, .int .u16 (C.r.p.1 : Int), .int .u16 (C.r.p.2 : Int), .int .u16 (C.r.q.1 : Int), .int .u16 (C.r.q.2 : Int), .int .u8 (C.r.m.1 : Int), .int .u8 (C.r.m.2 : Int), .int .i64 C.r.act, .int .u32 0, .int .u32 0, .int .u16 0, .int .u16 0, .int .u8 0] rfl rfl rfl 61 _ HX.out (Nat.le_of_ble_eq_true rfl) rfl (by kernel_rfl) rfl ?_; intro y0 hy0 ho0) | (refine wpList_load_blk rfl 61 (.tmp 1) rfl w.heap.size #[.int .i64 4, .int .i64 C.n, .int .i64 C.i, .int .i64 C.r.i, .int .u32 (C.r.s : Int), .int .i64 C.r.sl, .int .u32 (C.r.d : Int), .int .i64 C.r.dl, .int .u16 (C.r.p.1 : Int), .int .u16 (C.r.p.2 : Int), .int .u16 (C.r.q.1 : Int), .int .u16 (C.r.q.2 : Int), .int .u8 (C.r.m.1 : Int), .int .u8 (C.r.m.2 : Int), .int .i64 C.r.act, .int .u32 0, .int .u32 0, .int .u16 0, .int .u16 0, .int .u8 0] rfl hy0 Tryz.underlying61 rfl (by kernel_rfl) ?_) | (refine wpList_store_blk rfl 61 (.tmp 2) (.tmp 21) rfl (w.heap.size + 1) 0 #[.int .i64 4, .int .i64 C.n, .int .i64 C.i, .int .i64 C.r.i, .int .u32 (C.r.s : Int), .int .i64 C.r.sl, .int .u32 (C.r.d : Int), .int .i64 C.r.dl, .int .u16 (C.r.p.1 : Int), .int .u16 (C.r.p.2 : Int), .int .u16 (C.r.q.1 : Int), .int .u16 (C.r.q.2 : Int), .int .u8 (C.r.m.1 : Int), .int .u8 (C.r.m.2 : Int), .int .i64 C.r.act, .int .u32 0, .int .u32 0, .int .u16 0, .int .u16 0, .int .u8 0] #[.int .i64 4, .int .i64 C.n, .int .i64 C.i, .int .i64 C.r.i, .int .u32 (C.r.s : Int), .int .i64 C.r.sl, .int .u32 (C.r.d : Int), .int .i64 C.r.dl, .int .u16 (C.r.p.1 : Int), .int .u16 (C.r.p.2 : Int), .int .u16 (C.r.q.1 : Int), .int .u16 (C.r.q.2 : Int), .int .u8 (C.r.m.1 : Int), .int .u8 (C.r.m.2 : Int), .int .i64 C.r.act, .int .u32 0, .int .u32 0, .int .u16 0, .int .u16 0, .int .u8 0] rfl rfl 61 _ (only_blk ho0 HY.out (by omega)) (Nat.le_of_ble_eq_true rfl) rfl (by kernel_rfl) rfl ?_; intro wf hwf hof))
  exact bodyPost_ret (results_blk Tryz.results37 rfl hwf Tryz.underlying61 rfl (by kernel_rfl)) rfl ⟨rfl, (HB.out.trans (ho0.below (Nat.le_refl _))).trans (hof.below (Nat.le_succ _))⟩
set_option maxRecDepth 20000 in
set_option maxHeartbeats 8000000 in
theorem unused5 (C : Cv) (w : World) (hk : C.k ≠ 1 ∧ C.k ≠ 2 ∧ C.k ≠ 3 ∧ C.k ≠ 4) :
    Calls Tryz.prog 37 #[.agg #[.int .i64 C.k, .int .i64 C.n, .int .i64 C.i, .int .i64 C.r.i, .int .u32 (C.r.s : Int), .int .i64 C.r.sl, .int .u32 (C.r.d : Int), .int .i64 C.r.dl, .int .u16 (C.r.p.1 : Int), .int .u16 (C.r.p.2 : Int), .int .u16 (C.r.q.1 : Int), .int .u16 (C.r.q.2 : Int), .int .u8 (C.r.m.1 : Int), .int .u8 (C.r.m.2 : Int), .int .i64 C.r.act, .int .u32 (C.h.1 : Int), .int .u32 (C.h.2.1 : Int), .int .u16 (C.h.2.2.1 : Int), .int .u16 (C.h.2.2.2.1 : Int), .int .u8 (C.h.2.2.2.2 : Int)]] w fun e w' => e = .returned (.agg #[.int .i64 (unV C).k, .int .i64 (unV C).n, .int .i64 (unV C).i, .int .i64 (unV C).r.i, .int .u32 ((unV C).r.s : Int), .int .i64 (unV C).r.sl, .int .u32 ((unV C).r.d : Int), .int .i64 (unV C).r.dl, .int .u16 ((unV C).r.p.1 : Int), .int .u16 ((unV C).r.p.2 : Int), .int .u16 ((unV C).r.q.1 : Int), .int .u16 ((unV C).r.q.2 : Int), .int .u8 ((unV C).r.m.1 : Int), .int .u8 ((unV C).r.m.2 : Int), .int .i64 (unV C).r.act, .int .u32 ((unV C).h.1 : Int), .int .u32 ((unV C).h.2.1 : Int), .int .u16 ((unV C).h.2.2.1 : Int), .int .u16 ((unV C).h.2.2.2.1 : Int), .int .u8 ((unV C).h.2.2.2.2 : Int)]) ∧ Below w.heap.size w w' := by
  have hu : unV C = C := by unfold unV; rw [if_neg (by omega), if_neg (by omega), if_neg (by omega), if_neg (by omega)]
  rw [hu]
  clear hu
  obtain ⟨n1, n2, n3, n4⟩ := hk
  have HX : Hid (((w.alloc (.cells #[.int .i64 C.k, .int .i64 C.n, .int .i64 C.i, .int .i64 C.r.i, .int .u32 (C.r.s : Int), .int .i64 C.r.sl, .int .u32 (C.r.d : Int), .int .i64 C.r.dl, .int .u16 (C.r.p.1 : Int), .int .u16 (C.r.p.2 : Int), .int .u16 (C.r.q.1 : Int), .int .u16 (C.r.q.2 : Int), .int .u8 (C.r.m.1 : Int), .int .u8 (C.r.m.2 : Int), .int .i64 C.r.act, .int .u32 (C.h.1 : Int), .int .u32 (C.h.2.1 : Int), .int .u16 (C.h.2.2.1 : Int), .int .u16 (C.h.2.2.2.1 : Int), .int .u8 (C.h.2.2.2.2 : Int)] 61)).alloc (.cells #[.int .i64 0, .int .i64 0, .int .i64 0, .int .i64 0, .int .u32 0, .int .i64 0, .int .u32 0, .int .i64 0, .int .u16 0, .int .u16 0, .int .u16 0, .int .u16 0, .int .u8 0, .int .u8 0, .int .i64 0, .int .u32 0, .int .u32 0, .int .u16 0, .int .u16 0, .int .u8 0] 61)).heap[w.heap.size]? = some (.cells #[.int .i64 C.k, .int .i64 C.n, .int .i64 C.i, .int .i64 C.r.i, .int .u32 (C.r.s : Int), .int .i64 C.r.sl, .int .u32 (C.r.d : Int), .int .i64 C.r.dl, .int .u16 (C.r.p.1 : Int), .int .u16 (C.r.p.2 : Int), .int .u16 (C.r.q.1 : Int), .int .u16 (C.r.q.2 : Int), .int .u8 (C.r.m.1 : Int), .int .u8 (C.r.m.2 : Int), .int .i64 C.r.act, .int .u32 (C.h.1 : Int), .int .u32 (C.h.2.1 : Int), .int .u16 (C.h.2.2.1 : Int), .int .u16 (C.h.2.2.2.1 : Int), .int .u8 (C.h.2.2.2.2 : Int)] 61)) := blk_alloc (blk_new w _) _
  have HY : Hid (((w.alloc (.cells #[.int .i64 C.k, .int .i64 C.n, .int .i64 C.i, .int .i64 C.r.i, .int .u32 (C.r.s : Int), .int .i64 C.r.sl, .int .u32 (C.r.d : Int), .int .i64 C.r.dl, .int .u16 (C.r.p.1 : Int), .int .u16 (C.r.p.2 : Int), .int .u16 (C.r.q.1 : Int), .int .u16 (C.r.q.2 : Int), .int .u8 (C.r.m.1 : Int), .int .u8 (C.r.m.2 : Int), .int .i64 C.r.act, .int .u32 (C.h.1 : Int), .int .u32 (C.h.2.1 : Int), .int .u16 (C.h.2.2.1 : Int), .int .u16 (C.h.2.2.2.1 : Int), .int .u8 (C.h.2.2.2.2 : Int)] 61)).alloc (.cells #[.int .i64 0, .int .i64 0, .int .i64 0, .int .i64 0, .int .u32 0, .int .i64 0, .int .u32 0, .int .i64 0, .int .u16 0, .int .u16 0, .int .u16 0, .int .u16 0, .int .u8 0, .int .u8 0, .int .i64 0, .int .u32 0, .int .u32 0, .int .u16 0, .int .u16 0, .int .u8 0] 61)).heap[w.heap.size + 1]? = some (.cells #[.int .i64 0, .int .i64 0, .int .i64 0, .int .i64 0, .int .u32 0, .int .i64 0, .int .u32 0, .int .i64 0, .int .u16 0, .int .u16 0, .int .u16 0, .int .u16 0, .int .u8 0, .int .u8 0, .int .i64 0, .int .u32 0, .int .u32 0, .int .u16 0, .int .u16 0, .int .u8 0] 61)) := blk_newN (by simp) _
  have HB : Hid (Below w.heap.size w ((w.alloc (.cells #[.int .i64 C.k, .int .i64 C.n, .int .i64 C.i, .int .i64 C.r.i, .int .u32 (C.r.s : Int), .int .i64 C.r.sl, .int .u32 (C.r.d : Int), .int .i64 C.r.dl, .int .u16 (C.r.p.1 : Int), .int .u16 (C.r.p.2 : Int), .int .u16 (C.r.q.1 : Int), .int .u16 (C.r.q.2 : Int), .int .u8 (C.r.m.1 : Int), .int .u8 (C.r.m.2 : Int), .int .i64 C.r.act, .int .u32 (C.h.1 : Int), .int .u32 (C.h.2.1 : Int), .int .u16 (C.h.2.2.1 : Int), .int .u16 (C.h.2.2.2.1 : Int), .int .u8 (C.h.2.2.2.2 : Int)] 61)).alloc (.cells #[.int .i64 0, .int .i64 0, .int .i64 0, .int .i64 0, .int .u32 0, .int .i64 0, .int .u32 0, .int .i64 0, .int .u16 0, .int .u16 0, .int .u16 0, .int .u16 0, .int .u8 0, .int .u8 0, .int .i64 0, .int .u32 0, .int .u32 0, .int .u16 0, .int .u16 0, .int .u8 0] 61))) := ((Below.refl _ _).alloc (Nat.le_refl _) _).alloc (by simp) _
  generalize hW0 : ((w.alloc (.cells #[.int .i64 C.k, .int .i64 C.n, .int .i64 C.i, .int .i64 C.r.i, .int .u32 (C.r.s : Int), .int .i64 C.r.sl, .int .u32 (C.r.d : Int), .int .i64 C.r.dl, .int .u16 (C.r.p.1 : Int), .int .u16 (C.r.p.2 : Int), .int .u16 (C.r.q.1 : Int), .int .u16 (C.r.q.2 : Int), .int .u8 (C.r.m.1 : Int), .int .u8 (C.r.m.2 : Int), .int .i64 C.r.act, .int .u32 (C.h.1 : Int), .int .u32 (C.h.2.1 : Int), .int .u16 (C.h.2.2.1 : Int), .int .u16 (C.h.2.2.2.1 : Int), .int .u8 (C.h.2.2.2.2 : Int)] 61)).alloc (.cells #[.int .i64 0, .int .i64 0, .int .i64 0, .int .i64 0, .int .u32 0, .int .i64 0, .int .u32 0, .int .i64 0, .int .u16 0, .int .u16 0, .int .u16 0, .int .u16 0, .int .u8 0, .int .u8 0, .int .i64 0, .int .u32 0, .int .u32 0, .int .u16 0, .int .u16 0, .int .u8 0] 61)) = W0 at *
  have c0 : W0.cell? ⟨w.heap.size, 0, none⟩ = some (.int .i64 C.k) := blk_cell HX.out rfl
  go_enter Tryz.func37, Tryz.ntmps37
  go_upto_region 1 with (fail)
  try rw [hW0]
  clear hW0
  go_wp2_with (first | (refine wpList_load_blk rfl 61 (.tmp 1) rfl w.heap.size #[.int .i64 C.k, .int .i64 C.n, .int .i64 C.i, .int .i64 C.r.i, .int .u32 (C.r.s : Int), .int .i64 C.r.sl, .int .u32 (C.r.d : Int), .int .i64 C.r.dl, .int .u16 (C.r.p.1 : Int), .int .u16 (C.r.p.2 : Int), .int .u16 (C.r.q.1 : Int), .int .u16 (C.r.q.2 : Int), .int .u8 (C.r.m.1 : Int), .int .u8 (C.r.m.2 : Int), .int .i64 C.r.act, .int .u32 (C.h.1 : Int), .int .u32 (C.h.2.1 : Int), .int .u16 (C.h.2.2.1 : Int), .int .u16 (C.h.2.2.2.1 : Int), .int .u8 (C.h.2.2.2.2 : Int)] rfl HX.out Tryz.underlying61 rfl (by kernel_rfl) ?_) | (refine wpList_store_blk rfl 61 (.tmp 2) (.tmp 21) rfl (w.heap.size + 1) 0 #[.int .i64 C.k, .int .i64 C.n, .int .i64 C.i, .int .i64 C.r.i, .int .u32 (C.r.s : Int), .int .i64 C.r.sl, .int .u32 (C.r.d : Int), .int .i64 C.r.dl, .int .u16 (C.r.p.1 : Int), .int .u16 (C.r.p.2 : Int), .int .u16 (C.r.q.1 : Int), .int .u16 (C.r.q.2 : Int), .int .u8 (C.r.m.1 : Int), .int .u8 (C.r.m.2 : Int), .int .i64 C.r.act, .int .u32 (C.h.1 : Int), .int .u32 (C.h.2.1 : Int), .int .u16 (C.h.2.2.1 : Int), .int .u16 (C.h.2.2.2.1 : Int), .int .u8 (C.h.2.2.2.2 : Int)] #[.int .i64 C.k, .int .i64 C.n, .int .i64 C.i, .int .i64 C.r.i, .int .u32 (C.r.s : Int), .int .i64 C.r.sl, .int .u32 (C.r.d : Int), .int .i64 C.r.dl, .int .u16 (C.r.p.1 : Int), .int .u16 (C.r.p.2 : Int), .int .u16 (C.r.q.1 : Int), .int .u16 (C.r.q.2 : Int), .int .u8 (C.r.m.1 : Int), .int .u8 (C.r.m.2 : Int), .int .i64 C.r.act, .int .u32 (C.h.1 : Int), .int .u32 (C.h.2.1 : Int), .int .u16 (C.h.2.2.1 : Int), .int .u16 (C.h.2.2.2.1 : Int), .int .u8 (C.h.2.2.2.2 : Int)] rfl rfl 61 _ HY.out (Nat.le_of_ble_eq_true rfl) rfl (by kernel_rfl) rfl ?_; intro wf hwf hof))
  exact bodyPost_ret (results_blk Tryz.results37 rfl hwf Tryz.underlying61 rfl (by kernel_rfl)) rfl ⟨rfl, HB.out.trans (hof.below (Nat.le_succ _))⟩
theorem withoutUsedC (C : Cv) (w : World) : Calls Tryz.prog 37 #[.agg #[.int .i64 C.k, .int .i64 C.n, .int .i64 C.i, .int .i64 C.r.i, .int .u32 (C.r.s : Int), .int .i64 C.r.sl, .int .u32 (C.r.d : Int), .int .i64 C.r.dl, .int .u16 (C.r.p.1 : Int), .int .u16 (C.r.p.2 : Int), .int .u16 (C.r.q.1 : Int), .int .u16 (C.r.q.2 : Int), .int .u8 (C.r.m.1 : Int), .int .u8 (C.r.m.2 : Int), .int .i64 C.r.act, .int .u32 (C.h.1 : Int), .int .u32 (C.h.2.1 : Int), .int .u16 (C.h.2.2.1 : Int), .int .u16 (C.h.2.2.2.1 : Int), .int .u8 (C.h.2.2.2.2 : Int)]] w fun e w' => e = .returned (.agg #[.int .i64 (unV C).k, .int .i64 (unV C).n, .int .i64 (unV C).i, .int .i64 (unV C).r.i, .int .u32 ((unV C).r.s : Int), .int .i64 (unV C).r.sl, .int .u32 ((unV C).r.d : Int), .int .i64 (unV C).r.dl, .int .u16 ((unV C).r.p.1 : Int), .int .u16 ((unV C).r.p.2 : Int), .int .u16 ((unV C).r.q.1 : Int), .int .u16 ((unV C).r.q.2 : Int), .int .u8 ((unV C).r.m.1 : Int), .int .u8 ((unV C).r.m.2 : Int), .int .i64 (unV C).r.act, .int .u32 ((unV C).h.1 : Int), .int .u32 ((unV C).h.2.1 : Int), .int .u16 ((unV C).h.2.2.1 : Int), .int .u16 ((unV C).h.2.2.2.1 : Int), .int .u8 ((unV C).h.2.2.2.2 : Int)]) ∧ Below w.heap.size w w' := by
  by_cases h1 : C.k = 1
  · exact unused1 C w h1
  by_cases h2 : C.k = 2
  · exact unused2 C w h2
  by_cases h3 : C.k = 3
  · exact unused3 C w h3
  by_cases h4 : C.k = 4
  · exact unused4 C w h4
  exact unused5 C w ⟨h1, h2, h3, h4⟩
/-- What is wrong with a command that is to be printed. -/
def okF (C : Cv) : Bool := eqCv (unV C) (kindV C.k) && (isN C.n && isN C.i)
def errV (C : Cv) : Int := if C.k < 1 ∨ 10 < C.k then 1 else if okF C then (if C.k = 1 then (errs C.r).1 else 0) else 1
set_option maxRecDepth 20000 in
set_option maxHeartbeats 4000000 in
theorem checkCmdKind (C : Cv) (w : World) (h : C.k < 1 ∨ 10 < C.k) : Calls Tryz.prog 20 #[.agg #[.int .i64 C.k, .int .i64 C.n, .int .i64 C.i, .int .i64 C.r.i, .int .u32 (C.r.s : Int), .int .i64 C.r.sl, .int .u32 (C.r.d : Int), .int .i64 C.r.dl, .int .u16 (C.r.p.1 : Int), .int .u16 (C.r.p.2 : Int), .int .u16 (C.r.q.1 : Int), .int .u16 (C.r.q.2 : Int), .int .u8 (C.r.m.1 : Int), .int .u8 (C.r.m.2 : Int), .int .i64 C.r.act, .int .u32 (C.h.1 : Int), .int .u32 (C.h.2.1 : Int), .int .u16 (C.h.2.2.1 : Int), .int .u16 (C.h.2.2.2.1 : Int), .int .u8 (C.h.2.2.2.2 : Int)]] w fun e w' => e = .returned (.int .i64 1) ∧ Below w.heap.size w w' := by
  by_cases h1 : C.k < 1
  · have d1 : decide (C.k < 1) = true := decide_eq_true h1
    clear h
    go_enter Tryz.func20, Tryz.ntmps20
    go_wp2_with (fail)
    go_ret
    exact ⟨rfl, (Below.refl _ _).alloc (Nat.le_refl _) _⟩
  · have h2 : 10 < C.k := by omega
    clear h
    go_enter Tryz.func20, Tryz.ntmps20
    go_wp2_with (fail)
    go_ret
    exact ⟨rfl, (Below.refl _ _).alloc (Nat.le_refl _) _⟩
end Go.Proofs.YtehedlgdencboabGreatDoor
namespace Go.Proofs.YtehedlgdencboabGreatDoor
open Go.RowKit
set_option linter.unusedVariables false
set_option linter.unusedSimpArgs false
theorem wpQuiet_load_blk {P : Program} {ops : Array Oper} {C : World → Prop} {Q : Act → Prop} {rest : List Oper} {op : Oper} {a : Act} (hgd : op.guard = none) (ty : TypeId) (x : Operand) (ho : op.op = .load ty x)
    (B : Nat) (cs : Array Value) (hx : a.eval x = .pointer (some ⟨B, 0, none⟩)) (h : ∀ w, C w → ∃ (t : TypeId) (fr : Nat × Nat), w.heap[B]? = some (.cells cs t fr)) {d : TypeDesc} (hu : P.underlying ty = some d) (hd : d.isRow = true) (hi : (P.info? ty).map (·.size) = some cs.size)
    (hk : wpQuiet P ops C Q rest (a.put op.dst (.agg cs))) : wpQuiet P ops C Q (op :: rest) a := by
  have hw : Region.wanted op (yielded ops a.tmps) = true := by unfold Region.wanted; rw [hgd]
  unfold wpQuiet
  rw [if_pos hw]
  refine ⟨_, fun w hw => ?_, hk⟩
  obtain ⟨t, fr, h'⟩ := h w hw
  have hl := run_loadVar_mid (P := P) w B 0 ty cs.toList d (rng_all h') hu hd (by simpa using hi)
  unfold Oper.quietAt execOp
  simp only [ho, hx, Instr.loadAt, Instr.sureAddr, Sem.run_bind, Sem.run_pure, Result.andThen_ok, hl]
  exact ⟨rfl, rfl⟩
end Go.Proofs.YtehedlgdencboabGreatDoor
namespace Go.Proofs.YtehedlgdencboabGreatDoor
open Go.RowKit
set_option linter.unusedVariables false
set_option linter.unusedSimpArgs false
set_option maxRecDepth 20000 in
set_option maxHeartbeats 16000000 in
theorem checkCmdA (C : Cv) (bd : BdV C) (w : World) (h1 : 1 ≤ C.k) (h2 : C.k ≤ 10) (e1 : eqCv (unV C) (kindV C.k) = false) : Calls Tryz.prog 20 #[.agg #[.int .i64 C.k, .int .i64 C.n, .int .i64 C.i, .int .i64 C.r.i, .int .u32 (C.r.s : Int), .int .i64 C.r.sl, .int .u32 (C.r.d : Int), .int .i64 C.r.dl, .int .u16 (C.r.p.1 : Int), .int .u16 (C.r.p.2 : Int), .int .u16 (C.r.q.1 : Int), .int .u16 (C.r.q.2 : Int), .int .u8 (C.r.m.1 : Int), .int .u8 (C.r.m.2 : Int), .int .i64 C.r.act, .int .u32 (C.h.1 : Int), .int .u32 (C.h.2.1 : Int), .int .u16 (C.h.2.2.1 : Int), .int .u16 (C.h.2.2.2.1 : Int), .int .u8 (C.h.2.2.2.2 : Int)]] w fun e w' => e = .returned (.int .i64 1) ∧ Below w.heap.size w w' := by
  have HX : Hid ((w.alloc (.cells #[.int .i64 C.k, .int .i64 C.n, .int .i64 C.i, .int .i64 C.r.i, .int .u32 (C.r.s : Int), .int .i64 C.r.sl, .int .u32 (C.r.d : Int), .int .i64 C.r.dl, .int .u16 (C.r.p.1 : Int), .int .u16 (C.r.p.2 : Int), .int .u16 (C.r.q.1 : Int), .int .u16 (C.r.q.2 : Int), .int .u8 (C.r.m.1 : Int), .int .u8 (C.r.m.2 : Int), .int .i64 C.r.act, .int .u32 (C.h.1 : Int), .int .u32 (C.h.2.1 : Int), .int .u16 (C.h.2.2.1 : Int), .int .u16 (C.h.2.2.2.1 : Int), .int .u8 (C.h.2.2.2.2 : Int)] 61)).heap[w.heap.size]? = some (.cells #[.int .i64 C.k, .int .i64 C.n, .int .i64 C.i, .int .i64 C.r.i, .int .u32 (C.r.s : Int), .int .i64 C.r.sl, .int .u32 (C.r.d : Int), .int .i64 C.r.dl, .int .u16 (C.r.p.1 : Int), .int .u16 (C.r.p.2 : Int), .int .u16 (C.r.q.1 : Int), .int .u16 (C.r.q.2 : Int), .int .u8 (C.r.m.1 : Int), .int .u8 (C.r.m.2 : Int), .int .i64 C.r.act, .int .u32 (C.h.1 : Int), .int .u32 (C.h.2.1 : Int), .int .u16 (C.h.2.2.1 : Int), .int .u16 (C.h.2.2.2.1 : Int), .int .u8 (C.h.2.2.2.2 : Int)] 61)) := blk_new w _
  have HB : Hid (Below w.heap.size w (w.alloc (.cells #[.int .i64 C.k, .int .i64 C.n, .int .i64 C.i, .int .i64 C.r.i, .int .u32 (C.r.s : Int), .int .i64 C.r.sl, .int .u32 (C.r.d : Int), .int .i64 C.r.dl, .int .u16 (C.r.p.1 : Int), .int .u16 (C.r.p.2 : Int), .int .u16 (C.r.q.1 : Int), .int .u16 (C.r.q.2 : Int), .int .u8 (C.r.m.1 : Int), .int .u8 (C.r.m.2 : Int), .int .i64 C.r.act, .int .u32 (C.h.1 : Int), .int .u32 (C.h.2.1 : Int), .int .u16 (C.h.2.2.1 : Int), .int .u16 (C.h.2.2.2.1 : Int), .int .u8 (C.h.2.2.2.2 : Int)] 61))) := (Below.refl _ _).alloc (Nat.le_refl _) _
  generalize hW0 : (w.alloc (.cells #[.int .i64 C.k, .int .i64 C.n, .int .i64 C.i, .int .i64 C.r.i, .int .u32 (C.r.s : Int), .int .i64 C.r.sl, .int .u32 (C.r.d : Int), .int .i64 C.r.dl, .int .u16 (C.r.p.1 : Int), .int .u16 (C.r.p.2 : Int), .int .u16 (C.r.q.1 : Int), .int .u16 (C.r.q.2 : Int), .int .u8 (C.r.m.1 : Int), .int .u8 (C.r.m.2 : Int), .int .i64 C.r.act, .int .u32 (C.h.1 : Int), .int .u32 (C.h.2.1 : Int), .int .u16 (C.h.2.2.1 : Int), .int .u16 (C.h.2.2.2.1 : Int), .int .u8 (C.h.2.2.2.2 : Int)] 61)) = W0 at *
  have c0 : W0.cell? ⟨w.heap.size, 0, none⟩ = some (.int .i64 C.k) := blk_cell HX.out rfl
  have d1 : ¬ C.k < 1 := by omega
  have d1' : decide (C.k < 1) = false := decide_eq_false d1
  have d2 : ¬ 10 < C.k := by omega
  have kU := fun (y : Kin W0) => withoutUsedC C y.val
  have kN := fun (y : Kin W0) => isNumberC C.n bd.2.1 y.val
  have kI := fun (y : Kin W0) => isNumberC C.i bd.2.2.1 y.val
  have hR := fun W => checkRC C.r W bd.2.2.2.1
  have hE : ∀ W : World, Sem.run Tryz.prog (binOp .neq 61 (.agg #[.int .i64 (unV C).k, .int .i64 (unV C).n, .int .i64 (unV C).i, .int .i64 (unV C).r.i, .int .u32 ((unV C).r.s : Int), .int .i64 (unV C).r.sl, .int .u32 ((unV C).r.d : Int), .int .i64 (unV C).r.dl, .int .u16 ((unV C).r.p.1 : Int), .int .u16 ((unV C).r.p.2 : Int), .int .u16 ((unV C).r.q.1 : Int), .int .u16 ((unV C).r.q.2 : Int), .int .u8 ((unV C).r.m.1 : Int), .int .u8 ((unV C).r.m.2 : Int), .int .i64 (unV C).r.act, .int .u32 ((unV C).h.1 : Int), .int .u32 ((unV C).h.2.1 : Int), .int .u16 ((unV C).h.2.2.1 : Int), .int .u16 ((unV C).h.2.2.2.1 : Int), .int .u8 ((unV C).h.2.2.2.2 : Int)]) (.agg #[.int .i64 C.k, .int .i64 0, .int .i64 0, .int .i64 0, .int .u32 0, .int .i64 0, .int .u32 0, .int .i64 0, .int .u16 0, .int .u16 0, .int .u16 0, .int .u16 0, .int .u8 0, .int .u8 0, .int .i64 0, .int .u32 0, .int .u32 0, .int .u16 0, .int .u16 0, .int .u8 0])) W = .ok (.bool (!eqCv (unV C) (kindV C.k))) W := fun W => neCv_any (unV C) (kindV C.k) W
  rw [e1] at hE
  generalize unV C = U at *
  clear h1 h2 bd kN kI hR e1
  have kne : Nonempty (Kin W0) := ⟨⟨_, Below.refl _ _⟩⟩
  have kc0 : ∀ y : Kin W0, y.val.cell? ⟨w.heap.size, 0, none⟩ = some (.int .i64 C.k) := fun y => cell_on1 y.is (blk_cell HX.out rfl)
  have kc1 : ∀ y : Kin W0, y.val.cell? ⟨w.heap.size, 1, none⟩ = some (.int .i64 C.n) := fun y => cell_on1 y.is (blk_cell HX.out rfl)
  have kc2 : ∀ y : Kin W0, y.val.cell? ⟨w.heap.size, 2, none⟩ = some (.int .i64 C.i) := fun y => cell_on1 y.is (blk_cell HX.out rfl)
  go_enter Tryz.func20, Tryz.ntmps20
  go_upto_region 3 with (fail)
  try rw [hW0]
  clear hW0
  refine wp_region_kin W0 (Below.refl _ _) (by kernel_rfl) (by kernel_rfl) ?_
  refine wpQuiet_load_blk rfl 61 (.tmp 1) rfl w.heap.size #[.int .i64 C.k, .int .i64 C.n, .int .i64 C.i, .int .i64 C.r.i, .int .u32 (C.r.s : Int), .int .i64 C.r.sl, .int .u32 (C.r.d : Int), .int .i64 C.r.dl, .int .u16 (C.r.p.1 : Int), .int .u16 (C.r.p.2 : Int), .int .u16 (C.r.q.1 : Int), .int .u16 (C.r.q.2 : Int), .int .u8 (C.r.m.1 : Int), .int .u8 (C.r.m.2 : Int), .int .i64 C.r.act, .int .u32 (C.h.1 : Int), .int .u32 (C.h.2.1 : Int), .int .u16 (C.h.2.2.1 : Int), .int .u16 (C.h.2.2.2.1 : Int), .int .u8 (C.h.2.2.2.2 : Int)] rfl (fun w' ⟨y, hy⟩ => ⟨61, (0, 0), hy ▸ blk_on HX.out y.is⟩) Tryz.underlying61 rfl (by kernel_rfl) ?_
  simp only [List.getElem_toArray, List.getElem_cons_succ, List.getElem_cons_zero, Act.put, List.setIfInBounds_toArray, List.set_cons_zero, List.set_cons_succ]
  repeat (go_big_quiet_step ((first | (go_at_call 37; exact kin_call (kU _)) | (go_at_call 38; fail))))
  refine wpQuiet_nil ?_
  rintro wq ⟨⟨xq, hxq⟩, hyq⟩
  have HQ : Hid (Below W0.heap.size W0 wq) := by show Below _ _ _; rw [hyq]; exact hxq
  clear hyq hxq xq kne kc0 kc1 kc2
  go_wp2_with (fail)
  go_ret
  exact ⟨rfl, HB.out.trans (HQ.out.mono HB.out.size)⟩
set_option maxRecDepth 20000 in
set_option maxHeartbeats 16000000 in
theorem checkCmdB (C : Cv) (bd : BdV C) (w : World) (h1 : 1 ≤ C.k) (h2 : C.k ≤ 10) (e1 : eqCv (unV C) (kindV C.k) = true) (e2 : isN C.n = false) : Calls Tryz.prog 20 #[.agg #[.int .i64 C.k, .int .i64 C.n, .int .i64 C.i, .int .i64 C.r.i, .int .u32 (C.r.s : Int), .int .i64 C.r.sl, .int .u32 (C.r.d : Int), .int .i64 C.r.dl, .int .u16 (C.r.p.1 : Int), .int .u16 (C.r.p.2 : Int), .int .u16 (C.r.q.1 : Int), .int .u16 (C.r.q.2 : Int), .int .u8 (C.r.m.1 : Int), .int .u8 (C.r.m.2 : Int), .int .i64 C.r.act, .int .u32 (C.h.1 : Int), .int .u32 (C.h.2.1 : Int), .int .u16 (C.h.2.2.1 : Int), .int .u16 (C.h.2.2.2.1 : Int), .int .u8 (C.h.2.2.2.2 : Int)]] w fun e w' => e = .returned (.int .i64 1) ∧ Below w.heap.size w w' := by
  have HX : Hid ((w.alloc (.cells #[.int .i64 C.k, .int .i64 C.n, .int .i64 C.i, .int .i64 C.r.i, .int .u32 (C.r.s : Int), .int .i64 C.r.sl, .int .u32 (C.r.d : Int), .int .i64 C.r.dl, .int .u16 (C.r.p.1 : Int), .int .u16 (C.r.p.2 : Int), .int .u16 (C.r.q.1 : Int), .int .u16 (C.r.q.2 : Int), .int .u8 (C.r.m.1 : Int), .int .u8 (C.r.m.2 : Int), .int .i64 C.r.act, .int .u32 (C.h.1 : Int), .int .u32 (C.h.2.1 : Int), .int .u16 (C.h.2.2.1 : Int), .int .u16 (C.h.2.2.2.1 : Int), .int .u8 (C.h.2.2.2.2 : Int)] 61)).heap[w.heap.size]? = some (.cells #[.int .i64 C.k, .int .i64 C.n, .int .i64 C.i, .int .i64 C.r.i, .int .u32 (C.r.s : Int), .int .i64 C.r.sl, .int .u32 (C.r.d : Int), .int .i64 C.r.dl, .int .u16 (C.r.p.1 : Int), .int .u16 (C.r.p.2 : Int), .int .u16 (C.r.q.1 : Int), .int .u16 (C.r.q.2 : Int), .int .u8 (C.r.m.1 : Int), .int .u8 (C.r.m.2 : Int), .int .i64 C.r.act, .int .u32 (C.h.1 : Int), .int .u32 (C.h.2.1 : Int), .int .u16 (C.h.2.2.1 : Int), .int .u16 (C.h.2.2.2.1 : Int), .int .u8 (C.h.2.2.2.2 : Int)] 61)) := blk_new w _
  have HB : Hid (Below w.heap.size w (w.alloc (.cells #[.int .i64 C.k, .int .i64 C.n, .int .i64 C.i, .int .i64 C.r.i, .int .u32 (C.r.s : Int), .int .i64 C.r.sl, .int .u32 (C.r.d : Int), .int .i64 C.r.dl, .int .u16 (C.r.p.1 : Int), .int .u16 (C.r.p.2 : Int), .int .u16 (C.r.q.1 : Int), .int .u16 (C.r.q.2 : Int), .int .u8 (C.r.m.1 : Int), .int .u8 (C.r.m.2 : Int), .int .i64 C.r.act, .int .u32 (C.h.1 : Int), .int .u32 (C.h.2.1 : Int), .int .u16 (C.h.2.2.1 : Int), .int .u16 (C.h.2.2.2.1 : Int), .int .u8 (C.h.2.2.2.2 : Int)] 61))) := (Below.refl _ _).alloc (Nat.le_refl _) _
  generalize hW0 : (w.alloc (.cells #[.int .i64 C.k, .int .i64 C.n, .int .i64 C.i, .int .i64 C.r.i, .int .u32 (C.r.s : Int), .int .i64 C.r.sl, .int .u32 (C.r.d : Int), .int .i64 C.r.dl, .int .u16 (C.r.p.1 : Int), .int .u16 (C.r.p.2 : Int), .int .u16 (C.r.q.1 : Int), .int .u16 (C.r.q.2 : Int), .int .u8 (C.r.m.1 : Int), .int .u8 (C.r.m.2 : Int), .int .i64 C.r.act, .int .u32 (C.h.1 : Int), .int .u32 (C.h.2.1 : Int), .int .u16 (C.h.2.2.1 : Int), .int .u16 (C.h.2.2.2.1 : Int), .int .u8 (C.h.2.2.2.2 : Int)] 61)) = W0 at *
  have c0 : W0.cell? ⟨w.heap.size, 0, none⟩ = some (.int .i64 C.k) := blk_cell HX.out rfl
  have d1 : ¬ C.k < 1 := by omega
  have d1' : decide (C.k < 1) = false := decide_eq_false d1
  have d2 : ¬ 10 < C.k := by omega
  have kU := fun (y : Kin W0) => withoutUsedC C y.val
  have kN := fun (y : Kin W0) => isNumberC C.n bd.2.1 y.val
  have kI := fun (y : Kin W0) => isNumberC C.i bd.2.2.1 y.val
  have hR := fun W => checkRC C.r W bd.2.2.2.1
  have hE : ∀ W : World, Sem.run Tryz.prog (binOp .neq 61 (.agg #[.int .i64 (unV C).k, .int .i64 (unV C).n, .int .i64 (unV C).i, .int .i64 (unV C).r.i, .int .u32 ((unV C).r.s : Int), .int .i64 (unV C).r.sl, .int .u32 ((unV C).r.d : Int), .int .i64 (unV C).r.dl, .int .u16 ((unV C).r.p.1 : Int), .int .u16 ((unV C).r.p.2 : Int), .int .u16 ((unV C).r.q.1 : Int), .int .u16 ((unV C).r.q.2 : Int), .int .u8 ((unV C).r.m.1 : Int), .int .u8 ((unV C).r.m.2 : Int), .int .i64 (unV C).r.act, .int .u32 ((unV C).h.1 : Int), .int .u32 ((unV C).h.2.1 : Int), .int .u16 ((unV C).h.2.2.1 : Int), .int .u16 ((unV C).h.2.2.2.1 : Int), .int .u8 ((unV C).h.2.2.2.2 : Int)]) (.agg #[.int .i64 C.k, .int .i64 0, .int .i64 0, .int .i64 0, .int .u32 0, .int .i64 0, .int .u32 0, .int .i64 0, .int .u16 0, .int .u16 0, .int .u16 0, .int .u16 0, .int .u8 0, .int .u8 0, .int .i64 0, .int .u32 0, .int .u32 0, .int .u16 0, .int .u16 0, .int .u8 0])) W = .ok (.bool (!eqCv (unV C) (kindV C.k))) W := fun W => neCv_any (unV C) (kindV C.k) W
  rw [e1] at hE
  rw [e2] at kN
  generalize unV C = U at *
  clear h1 h2 bd kI hR e1 e2
  have kne : Nonempty (Kin W0) := ⟨⟨_, Below.refl _ _⟩⟩
  have kc0 : ∀ y : Kin W0, y.val.cell? ⟨w.heap.size, 0, none⟩ = some (.int .i64 C.k) := fun y => cell_on1 y.is (blk_cell HX.out rfl)
  have kc1 : ∀ y : Kin W0, y.val.cell? ⟨w.heap.size, 1, none⟩ = some (.int .i64 C.n) := fun y => cell_on1 y.is (blk_cell HX.out rfl)
  have kc2 : ∀ y : Kin W0, y.val.cell? ⟨w.heap.size, 2, none⟩ = some (.int .i64 C.i) := fun y => cell_on1 y.is (blk_cell HX.out rfl)
  go_enter Tryz.func20, Tryz.ntmps20
  go_upto_region 3 with (fail)
  try rw [hW0]
  clear hW0
  refine wp_region_kin W0 (Below.refl _ _) (by kernel_rfl) (by kernel_rfl) ?_
  refine wpQuiet_load_blk rfl 61 (.tmp 1) rfl w.heap.size #[.int .i64 C.k, .int .i64 C.n, .int .i64 C.i, .int .i64 C.r.i, .int .u32 (C.r.s : Int), .int .i64 C.r.sl, .int .u32 (C.r.d : Int), .int .i64 C.r.dl, .int .u16 (C.r.p.1 : Int), .int .u16 (C.r.p.2 : Int), .int .u16 (C.r.q.1 : Int), .int .u16 (C.r.q.2 : Int), .int .u8 (C.r.m.1 : Int), .int .u8 (C.r.m.2 : Int), .int .i64 C.r.act, .int .u32 (C.h.1 : Int), .int .u32 (C.h.2.1 : Int), .int .u16 (C.h.2.2.1 : Int), .int .u16 (C.h.2.2.2.1 : Int), .int .u8 (C.h.2.2.2.2 : Int)] rfl (fun w' ⟨y, hy⟩ => ⟨61, (0, 0), hy ▸ blk_on HX.out y.is⟩) Tryz.underlying61 rfl (by kernel_rfl) ?_
  simp only [List.getElem_toArray, List.getElem_cons_succ, List.getElem_cons_zero, Act.put, List.setIfInBounds_toArray, List.set_cons_zero, List.set_cons_succ]
  repeat (go_big_quiet_step ((first | (go_at_call 37; exact kin_call (kU _)) | (go_at_call 38; exact kin_same (kN _)))))
  refine wpQuiet_nil ?_
  rintro wq ⟨⟨xq, hxq⟩, hyq⟩
  have HQ : Hid (Below W0.heap.size W0 wq) := by show Below _ _ _; rw [hyq]; exact hxq
  clear hyq hxq xq kne kc0 kc1 kc2
  go_wp2_with (fail)
  go_ret
  exact ⟨rfl, HB.out.trans (HQ.out.mono HB.out.size)⟩
set_option maxRecDepth 20000 in
set_option maxHeartbeats 16000000 in
theorem checkCmdD (C : Cv) (bd : BdV C) (w : World) (h1 : 1 ≤ C.k) (h2 : C.k ≤ 10) (e1 : eqCv (unV C) (kindV C.k) = true) (e2 : isN C.n = true) (e3 : isN C.i = false) : Calls Tryz.prog 20 #[.agg #[.int .i64 C.k, .int .i64 C.n, .int .i64 C.i, .int .i64 C.r.i, .int .u32 (C.r.s : Int), .int .i64 C.r.sl, .int .u32 (C.r.d : Int), .int .i64 C.r.dl, .int .u16 (C.r.p.1 : Int), .int .u16 (C.r.p.2 : Int), .int .u16 (C.r.q.1 : Int), .int .u16 (C.r.q.2 : Int), .int .u8 (C.r.m.1 : Int), .int .u8 (C.r.m.2 : Int), .int .i64 C.r.act, .int .u32 (C.h.1 : Int), .int .u32 (C.h.2.1 : Int), .int .u16 (C.h.2.2.1 : Int), .int .u16 (C.h.2.2.2.1 : Int), .int .u8 (C.h.2.2.2.2 : Int)]] w fun e w' => e = .returned (.int .i64 1) ∧ Below w.heap.size w w' := by
  have HX : Hid ((w.alloc (.cells #[.int .i64 C.k, .int .i64 C.n, .int .i64 C.i, .int .i64 C.r.i, .int .u32 (C.r.s : Int), .int .i64 C.r.sl, .int .u32 (C.r.d : Int), .int .i64 C.r.dl, .int .u16 (C.r.p.1 : Int), .int .u16 (C.r.p.2 : Int), .int .u16 (C.r.q.1 : Int), .int .u16 (C.r.q.2 : Int), .int .u8 (C.r.m.1 : Int), .int .u8 (C.r.m.2 : Int), .int .i64 C.r.act, .int .u32 (C.h.1 : Int), .int .u32 (C.h.2.1 : Int), .int .u16 (C.h.2.2.1 : Int), .int .u16 (C.h.2.2.2.1 : Int), .int .u8 (C.h.2.2.2.2 : Int)] 61)).heap[w.heap.size]? = some (.cells #[.int .i64 C.k, .int .i64 C.n, .int .i64 C.i, .int .i64 C.r.i, .int .u32 (C.r.s : Int), .int .i64 C.r.sl, .int .u32 (C.r.d : Int), .int .i64 C.r.dl, .int .u16 (C.r.p.1 : Int), .int .u16 (C.r.p.2 : Int), .int .u16 (C.r.q.1 : Int), .int .u16 (C.r.q.2 : Int), .int .u8 (C.r.m.1 : Int), .int .u8 (C.r.m.2 : Int), .int .i64 C.r.act, .int .u32 (C.h.1 : Int), .int .u32 (C.h.2.1 : Int), .int .u16 (C.h.2.2.1 : Int), .int .u16 (C.h.2.2.2.1 : Int), .int .u8 (C.h.2.2.2.2 : Int)] 61)) := blk_new w _
  have HB : Hid (Below w.heap.size w (w.alloc (.cells #[.int .i64 C.k, .int .i64 C.n, .int .i64 C.i, .int .i64 C.r.i, .int .u32 (C.r.s : Int), .int .i64 C.r.sl, .int .u32 (C.r.d : Int), .int .i64 C.r.dl, .int .u16 (C.r.p.1 : Int), .int .u16 (C.r.p.2 : Int), .int .u16 (C.r.q.1 : Int), .int .u16 (C.r.q.2 : Int), .int .u8 (C.r.m.1 : Int), .int .u8 (C.r.m.2 : Int), .int .i64 C.r.act, .int .u32 (C.h.1 : Int), .int .u32 (C.h.2.1 : Int), .int .u16 (C.h.2.2.1 : Int), .int .u16 (C.h.2.2.2.1 : Int), .int .u8 (C.h.2.2.2.2 : Int)] 61))) := (Below.refl _ _).alloc (Nat.le_refl _) _
  generalize hW0 : (w.alloc (.cells #[.int .i64 C.k, .int .i64 C.n, .int .i64 C.i, .int .i64 C.r.i, .int .u32 (C.r.s : Int), .int .i64 C.r.sl, .int .u32 (C.r.d : Int), .int .i64 C.r.dl, .int .u16 (C.r.p.1 : Int), .int .u16 (C.r.p.2 : Int), .int .u16 (C.r.q.1 : Int), .int .u16 (C.r.q.2 : Int), .int .u8 (C.r.m.1 : Int), .int .u8 (C.r.m.2 : Int), .int .i64 C.r.act, .int .u32 (C.h.1 : Int), .int .u32 (C.h.2.1 : Int), .int .u16 (C.h.2.2.1 : Int), .int .u16 (C.h.2.2.2.1 : Int), .int .u8 (C.h.2.2.2.2 : Int)] 61)) = W0 at *
  have c0 : W0.cell? ⟨w.heap.size, 0, none⟩ = some (.int .i64 C.k) := blk_cell HX.out rfl
  have d1 : ¬ C.k < 1 := by omega
  have d1' : decide (C.k < 1) = false := decide_eq_false d1
  have d2 : ¬ 10 < C.k := by omega
  have kU := fun (y : Kin W0) => withoutUsedC C y.val
  have kN := fun (y : Kin W0) => isNumberC C.n bd.2.1 y.val
  have kI := fun (y : Kin W0) => isNumberC C.i bd.2.2.1 y.val
  have hR := fun W => checkRC C.r W bd.2.2.2.1
  have hE : ∀ W : World, Sem.run Tryz.prog (binOp .neq 61 (.agg #[.int .i64 (unV C).k, .int .i64 (unV C).n, .int .i64 (unV C).i, .int .i64 (unV C).r.i, .int .u32 ((unV C).r.s : Int), .int .i64 (unV C).r.sl, .int .u32 ((unV C).r.d : Int), .int .i64 (unV C).r.dl, .int .u16 ((unV C).r.p.1 : Int), .int .u16 ((unV C).r.p.2 : Int), .int .u16 ((unV C).r.q.1 : Int), .int .u16 ((unV C).r.q.2 : Int), .int .u8 ((unV C).r.m.1 : Int), .int .u8 ((unV C).r.m.2 : Int), .int .i64 (unV C).r.act, .int .u32 ((unV C).h.1 : Int), .int .u32 ((unV C).h.2.1 : Int), .int .u16 ((unV C).h.2.2.1 : Int), .int .u16 ((unV C).h.2.2.2.1 : Int), .int .u8 ((unV C).h.2.2.2.2 : Int)]) (.agg #[.int .i64 C.k, .int .i64 0, .int .i64 0, .int .i64 0, .int .u32 0, .int .i64 0, .int .u32 0, .int .i64 0, .int .u16 0, .int .u16 0, .int .u16 0, .int .u16 0, .int .u8 0, .int .u8 0, .int .i64 0, .int .u32 0, .int .u32 0, .int .u16 0, .int .u16 0, .int .u8 0])) W = .ok (.bool (!eqCv (unV C) (kindV C.k))) W := fun W => neCv_any (unV C) (kindV C.k) W
  rw [e1] at hE
  rw [e2] at kN
  rw [e3] at kI
  generalize unV C = U at *
  clear h1 h2 bd hR e1 e2 e3
  have kne : Nonempty (Kin W0) := ⟨⟨_, Below.refl _ _⟩⟩
  have kc0 : ∀ y : Kin W0, y.val.cell? ⟨w.heap.size, 0, none⟩ = some (.int .i64 C.k) := fun y => cell_on1 y.is (blk_cell HX.out rfl)
  have kc1 : ∀ y : Kin W0, y.val.cell? ⟨w.heap.size, 1, none⟩ = some (.int .i64 C.n) := fun y => cell_on1 y.is (blk_cell HX.out rfl)
  have kc2 : ∀ y : Kin W0, y.val.cell? ⟨w.heap.size, 2, none⟩ = some (.int .i64 C.i) := fun y => cell_on1 y.is (blk_cell HX.out rfl)
  go_enter Tryz.func20, Tryz.ntmps20
  go_upto_region 3 with (fail)
  try rw [hW0]
  clear hW0
  refine wp_region_kin W0 (Below.refl _ _) (by kernel_rfl) (by kernel_rfl) ?_
  refine wpQuiet_load_blk rfl 61 (.tmp 1) rfl w.heap.size #[.int .i64 C.k, .int .i64 C.n, .int .i64 C.i, .int .i64 C.r.i, .int .u32 (C.r.s : Int), .int .i64 C.r.sl, .int .u32 (C.r.d : Int), .int .i64 C.r.dl, .int .u16 (C.r.p.1 : Int), .int .u16 (C.r.p.2 : Int), .int .u16 (C.r.q.1 : Int), .int .u16 (C.r.q.2 : Int), .int .u8 (C.r.m.1 : Int), .int .u8 (C.r.m.2 : Int), .int .i64 C.r.act, .int .u32 (C.h.1 : Int), .int .u32 (C.h.2.1 : Int), .int .u16 (C.h.2.2.1 : Int), .int .u16 (C.h.2.2.2.1 : Int), .int .u8 (C.h.2.2.2.2 : Int)] rfl (fun w' ⟨y, hy⟩ => ⟨61, (0, 0), hy ▸ blk_on HX.out y.is⟩) Tryz.underlying61 rfl (by kernel_rfl) ?_
  simp only [List.getElem_toArray, List.getElem_cons_succ, List.getElem_cons_zero, Act.put, List.setIfInBounds_toArray, List.set_cons_zero, List.set_cons_succ]
  repeat (go_big_quiet_step ((first | (go_at_call 37; exact kin_call (kU _)) | (go_at_call 38; first | exact kin_same (kN _) | exact kin_same (kI _)))))
  refine wpQuiet_nil ?_
  rintro wq ⟨⟨xq, hxq⟩, hyq⟩
  have HQ : Hid (Below W0.heap.size W0 wq) := by show Below _ _ _; rw [hyq]; exact hxq
  clear hyq hxq xq kne kc0 kc1 kc2
  go_wp2_with (fail)
  go_ret
  exact ⟨rfl, HB.out.trans (HQ.out.mono HB.out.size)⟩
set_option maxRecDepth 20000 in
set_option maxHeartbeats 16000000 in
theorem checkCmdE (C : Cv) (bd : BdV C) (w : World) (h1 : 1 ≤ C.k) (h2 : C.k ≤ 10) (e1 : eqCv (unV C) (kindV C.k) = true) (e2 : isN C.n = true) (e3 : isN C.i = true) (hk : C.k = 1) : Calls Tryz.prog 20 #[.agg #[.int .i64 C.k, .int .i64 C.n, .int .i64 C.i, .int .i64 C.r.i, .int .u32 (C.r.s : Int), .int .i64 C.r.sl, .int .u32 (C.r.d : Int), .int .i64 C.r.dl, .int .u16 (C.r.p.1 : Int), .int .u16 (C.r.p.2 : Int), .int .u16 (C.r.q.1 : Int), .int .u16 (C.r.q.2 : Int), .int .u8 (C.r.m.1 : Int), .int .u8 (C.r.m.2 : Int), .int .i64 C.r.act, .int .u32 (C.h.1 : Int), .int .u32 (C.h.2.1 : Int), .int .u16 (C.h.2.2.1 : Int), .int .u16 (C.h.2.2.2.1 : Int), .int .u8 (C.h.2.2.2.2 : Int)]] w fun e w' => e = .returned (.int .i64 (errs C.r).1) ∧ Below w.heap.size w w' := by
  have HX : Hid ((w.alloc (.cells #[.int .i64 C.k, .int .i64 C.n, .int .i64 C.i, .int .i64 C.r.i, .int .u32 (C.r.s : Int), .int .i64 C.r.sl, .int .u32 (C.r.d : Int), .int .i64 C.r.dl, .int .u16 (C.r.p.1 : Int), .int .u16 (C.r.p.2 : Int), .int .u16 (C.r.q.1 : Int), .int .u16 (C.r.q.2 : Int), .int .u8 (C.r.m.1 : Int), .int .u8 (C.r.m.2 : Int), .int .i64 C.r.act, .int .u32 (C.h.1 : Int), .int .u32 (C.h.2.1 : Int), .int .u16 (C.h.2.2.1 : Int), .int .u16 (C.h.2.2.2.1 : Int), .int .u8 (C.h.2.2.2.2 : Int)] 61)).heap[w.heap.size]? = some (.cells #[.int .i64 C.k, .int .i64 C.n, .int .i64 C.i, .int .i64 C.r.i, .int .u32 (C.r.s : Int), .int .i64 C.r.sl, .int .u32 (C.r.d : Int), .int .i64 C.r.dl, .int .u16 (C.r.p.1 : Int), .int .u16 (C.r.p.2 : Int), .int .u16 (C.r.q.1 : Int), .int .u16 (C.r.q.2 : Int), .int .u8 (C.r.m.1 : Int), .int .u8 (C.r.m.2 : Int), .int .i64 C.r.act, .int .u32 (C.h.1 : Int), .int .u32 (C.h.2.1 : Int), .int .u16 (C.h.2.2.1 : Int), .int .u16 (C.h.2.2.2.1 : Int), .int .u8 (C.h.2.2.2.2 : Int)] 61)) := blk_new w _
  have HB : Hid (Below w.heap.size w (w.alloc (.cells #[.int .i64 C.k, .int .i64 C.n, .int .i64 C.i, .int .i64 C.r.i, .int .u32 (C.r.s : Int), .int .i64 C.r.sl, .int .u32 (C.r.d : Int), .int .i64 C.r.dl, .int .u16 (C.r.p.1 : Int), .int .u16 (C.r.p.2 : Int), .int .u16 (C.r.q.1 : Int), .int .u16 (C.r.q.2 : Int), .int .u8 (C.r.m.1 : Int), .int .u8 (C.r.m.2 : Int), .int .i64 C.r.act, .int .u32 (C.h.1 : Int), .int .u32 (C.h.2.1 : Int), .int .u16 (C.h.2.2.1 : Int), .int .u16 (C.h.2.2.2.1 : Int), .int .u8 (C.h.2.2.2.2 : Int)] 61))) := (Below.refl _ _).alloc (Nat.le_refl _) _
  generalize hW0 : (w.alloc (.cells #[.int .i64 C.k, .int .i64 C.n, .int .i64 C.i, .int .i64 C.r.i, .int .u32 (C.r.s : Int), .int .i64 C.r.sl, .int .u32 (C.r.d : Int), .int .i64 C.r.dl, .int .u16 (C.r.p.1 : Int), .int .u16 (C.r.p.2 : Int), .int .u16 (C.r.q.1 : Int), .int .u16 (C.r.q.2 : Int), .int .u8 (C.r.m.1 : Int), .int .u8 (C.r.m.2 : Int), .int .i64 C.r.act, .int .u32 (C.h.1 : Int), .int .u32 (C.h.2.1 : Int), .int .u16 (C.h.2.2.1 : Int), .int .u16 (C.h.2.2.2.1 : Int), .int .u8 (C.h.2.2.2.2 : Int)] 61)) = W0 at *
  have c0 : W0.cell? ⟨w.heap.size, 0, none⟩ = some (.int .i64 C.k) := blk_cell HX.out rfl
  have d1 : ¬ C.k < 1 := by omega
  have d1' : decide (C.k < 1) = false := decide_eq_false d1
  have d2 : ¬ 10 < C.k := by omega
  have kU := fun (y : Kin W0) => withoutUsedC C y.val
  have kN := fun (y : Kin W0) => isNumberC C.n bd.2.1 y.val
  have kI := fun (y : Kin W0) => isNumberC C.i bd.2.2.1 y.val
  have hR := fun W => checkRC C.r W bd.2.2.2.1
  have hE : ∀ W : World, Sem.run Tryz.prog (binOp .neq 61 (.agg #[.int .i64 (unV C).k, .int .i64 (unV C).n, .int .i64 (unV C).i, .int .i64 (unV C).r.i, .int .u32 ((unV C).r.s : Int), .int .i64 (unV C).r.sl, .int .u32 ((unV C).r.d : Int), .int .i64 (unV C).r.dl, .int .u16 ((unV C).r.p.1 : Int), .int .u16 ((unV C).r.p.2 : Int), .int .u16 ((unV C).r.q.1 : Int), .int .u16 ((unV C).r.q.2 : Int), .int .u8 ((unV C).r.m.1 : Int), .int .u8 ((unV C).r.m.2 : Int), .int .i64 (unV C).r.act, .int .u32 ((unV C).h.1 : Int), .int .u32 ((unV C).h.2.1 : Int), .int .u16 ((unV C).h.2.2.1 : Int), .int .u16 ((unV C).h.2.2.2.1 : Int), .int .u8 ((unV C).h.2.2.2.2 : Int)]) (.agg #[.int .i64 C.k, .int .i64 0, .int .i64 0, .int .i64 0, .int .u32 0, .int .i64 0, .int .u32 0, .int .i64 0, .int .u16 0, .int .u16 0, .int .u16 0, .int .u16 0, .int .u8 0, .int .u8 0, .int .i64 0, .int .u32 0, .int .u32 0, .int .u16 0, .int .u16 0, .int .u8 0])) W = .ok (.bool (!eqCv (unV C) (kindV C.k))) W := fun W => neCv_any (unV C) (kindV C.k) W
  rw [e1] at hE
  rw [e2] at kN
  rw [e3] at kI
  have HK : Hid (C.k = 1) := hk
  generalize unV C = U at *
  clear h1 h2 bd e1 e2 e3 hk
  have kne : Nonempty (Kin W0) := ⟨⟨_, Below.refl _ _⟩⟩
  have kc0 : ∀ y : Kin W0, y.val.cell? ⟨w.heap.size, 0, none⟩ = some (.int .i64 C.k) := fun y => cell_on1 y.is (blk_cell HX.out rfl)
  have kc1 : ∀ y : Kin W0, y.val.cell? ⟨w.heap.size, 1, none⟩ = some (.int .i64 C.n) := fun y => cell_on1 y.is (blk_cell HX.out rfl)
  have kc2 : ∀ y : Kin W0, y.val.cell? ⟨w.heap.size, 2, none⟩ = some (.int .i64 C.i) := fun y => cell_on1 y.is (blk_cell HX.out rfl)
  go_enter Tryz.func20, Tryz.ntmps20
  go_upto_region 3 with (fail)
  try rw [hW0]
  clear hW0
  refine wp_region_kin W0 (Below.refl _ _) (by kernel_rfl) (by kernel_rfl) ?_
  refine wpQuiet_load_blk rfl 61 (.tmp 1) rfl w.heap.size #[.int .i64 C.k, .int .i64 C.n, .int .i64 C.i, .int .i64 C.r.i, .int .u32 (C.r.s : Int), .int .i64 C.r.sl, .int .u32 (C.r.d : Int), .int .i64 C.r.dl, .int .u16 (C.r.p.1 : Int), .int .u16 (C.r.p.2 : Int), .int .u16 (C.r.q.1 : Int), .int .u16 (C.r.q.2 : Int), .int .u8 (C.r.m.1 : Int), .int .u8 (C.r.m.2 : Int), .int .i64 C.r.act, .int .u32 (C.h.1 : Int), .int .u32 (C.h.2.1 : Int), .int .u16 (C.h.2.2.1 : Int), .int .u16 (C.h.2.2.2.1 : Int), .int .u8 (C.h.2.2.2.2 : Int)] rfl (fun w' ⟨y, hy⟩ => ⟨61, (0, 0), hy ▸ blk_on HX.out y.is⟩) Tryz.underlying61 rfl (by kernel_rfl) ?_
  simp only [List.getElem_toArray, List.getElem_cons_succ, List.getElem_cons_zero, Act.put, List.setIfInBounds_toArray, List.set_cons_zero, List.set_cons_succ]
  repeat (go_big_quiet_step ((first | (go_at_call 37; exact kin_call (kU _)) | (go_at_call 38; first | exact kin_same (kN _) | exact kin_same (kI _)))))
  refine wpQuiet_nil ?_
  rintro wq ⟨⟨xq, hxq⟩, hyq⟩
  have HQ : Hid (Below W0.heap.size W0 wq) := by show Below _ _ _; rw [hyq]; exact hxq
  clear hyq hxq xq kne kc0 kc1 kc2
  have g0 : wq.cell? ⟨w.heap.size, 0, none⟩ = some (.int .i64 C.k) := cell_on1 HQ.out c0
  rw [HK.out] at g0
  have g3 : wq.cell? ⟨w.heap.size, 3, none⟩ = some (.int .i64 C.r.i) := cell_on1 HQ.out (blk_cell HX.out rfl)
  have g4 : wq.cell? ⟨w.heap.size, 4, none⟩ = some (.int .u32 (C.r.s : Int)) := cell_on1 HQ.out (blk_cell HX.out rfl)
  have g5 : wq.cell? ⟨w.heap.size, 5, none⟩ = some (.int .i64 C.r.sl) := cell_on1 HQ.out (blk_cell HX.out rfl)
  have g6 : wq.cell? ⟨w.heap.size, 6, none⟩ = some (.int .u32 (C.r.d : Int)) := cell_on1 HQ.out (blk_cell HX.out rfl)
  have g7 : wq.cell? ⟨w.heap.size, 7, none⟩ = some (.int .i64 C.r.dl) := cell_on1 HQ.out (blk_cell HX.out rfl)
  have g8 : wq.cell? ⟨w.heap.size, 8, none⟩ = some (.int .u16 (C.r.p.1 : Int)) := cell_on1 HQ.out (blk_cell HX.out rfl)
  have g9 : wq.cell? ⟨w.heap.size, 9, none⟩ = some (.int .u16 (C.r.p.2 : Int)) := cell_on1 HQ.out (blk_cell HX.out rfl)
  have g10 : wq.cell? ⟨w.heap.size, 10, none⟩ = some (.int .u16 (C.r.q.1 : Int)) := cell_on1 HQ.out (blk_cell HX.out rfl)
  have g11 : wq.cell? ⟨w.heap.size, 11, none⟩ = some (.int .u16 (C.r.q.2 : Int)) := cell_on1 HQ.out (blk_cell HX.out rfl)
  have g12 : wq.cell? ⟨w.heap.size, 12, none⟩ = some (.int .u8 (C.r.m.1 : Int)) := cell_on1 HQ.out (blk_cell HX.out rfl)
  have g13 : wq.cell? ⟨w.heap.size, 13, none⟩ = some (.int .u8 (C.r.m.2 : Int)) := cell_on1 HQ.out (blk_cell HX.out rfl)
  have g14 : wq.cell? ⟨w.heap.size, 14, none⟩ = some (.int .i64 C.r.act) := cell_on1 HQ.out (blk_cell HX.out rfl)
  clear c0
  go_wp2_with (fail)
  refine (hR _).mono ?_
  rintro e w1 ⟨rfl, hb1⟩
  have HB1 : Hid (Below w.heap.size w w1) := (HB.out.trans (HQ.out.mono HB.out.size)).trans (hb1.mono (HB.out.trans (HQ.out.mono HB.out.size)).size)
  clear hb1 g0 g3 g4 g5 g6 g7 g8 g9 g10 g11 g12 g13 g14
  go_wp2_with (fail)
  go_ret
  exact ⟨rfl, HB1.out⟩
set_option maxRecDepth 20000 in
set_option maxHeartbeats 16000000 in
theorem checkCmdG (C : Cv) (bd : BdV C) (w : World) (h1 : 1 ≤ C.k) (h2 : C.k ≤ 10) (e1 : eqCv (unV C) (kindV C.k) = true) (e2 : isN C.n = true) (e3 : isN C.i = true) (hk : ¬ C.k = 1) : Calls Tryz.prog 20 #[.agg #[.int .i64 C.k, .int .i64 C.n, .int .i64 C.i, .int .i64 C.r.i, .int .u32 (C.r.s : Int), .int .i64 C.r.sl, .int .u32 (C.r.d : Int), .int .i64 C.r.dl, .int .u16 (C.r.p.1 : Int), .int .u16 (C.r.p.2 : Int), .int .u16 (C.r.q.1 : Int), .int .u16 (C.r.q.2 : Int), .int .u8 (C.r.m.1 : Int), .int .u8 (C.r.m.2 : Int), .int .i64 C.r.act, .int .u32 (C.h.1 : Int), .int .u32 (C.h.2.1 : Int), .int .u16 (C.h.2.2.1 : Int), .int .u16 (C.h.2.2.2.1 : Int), .int .u8 (C.h.2.2.2.2 : Int)]] w fun e w' => e = .returned (.int .i64 0) ∧ Below w.heap.size w w' := by
  have HX : Hid ((w.alloc (.cells #[.int .i64 C.k, .int .i64 C.n, .int .i64 C.i, .int .i64 C.r.i, .int .u32 (C.r.s : Int), .int .i64 C.r.sl, .int .u32 (C.r.d : Int), .int .i64 C.r.dl, .int .u16 (C.r.p.1 : Int), .int .u16 (C.r.p.2 : Int), .int .u16 (C.r.q.1 : Int), .int .u16 (C.r.q.2 : Int), .int .u8 (C.r.m.1 : Int), .int .u8 (C.r.m.2 : Int), .int .i64 C.r.act, .int .u32 (C.h.1 : Int), .int .u32 (C.h.2.1 : Int), .int .u16 (C.h.2.2.1 : Int), .int .u16 (C.h.2.2.2.1 : Int), .int .u8 (C.h.2.2.2.2 : Int)] 61)).heap[w.heap.size]? = some (.cells #[.int .i64 C.k, .int .i64 C.n, .int .i64 C.i, .int .i64 C.r.i, .int .u32 (C.r.s : Int), .int .i64 C.r.sl, .int .u32 (C.r.d : Int), .int .i64 C.r.dl, .int .u16 (C.r.p.1 : Int), .int .u16 (C.r.p.2 : Int), .int .u16 (C.r.q.1 : Int), .int .u16 (C.r.q.2 : Int), .int .u8 (C.r.m.1 : Int), .int .u8 (C.r.m.2 : Int), .int .i64 C.r.act, .int .u32 (C.h.1 : Int), .int .u32 (C.h.2.1 : Int), .int .u16 (C.h.2.2.1 : Int), .int .u16 (C.h.2.2.2.1 : Int), .int .u8 (C.h.2.2.2.2 : Int)] 61)) := blk_new w _
  have HB : Hid (Below w.heap.size w (w.alloc (.cells #[.int .i64 C.k, .int .i64 C.n, .int .i64 C.i, .int .i64 C.r.i, .int .u32 (C.r.s : Int), .int .i64 C.r.sl, .int .u32 (C.r.d : Int), .int .i64 C.r.dl, .int .u16 (C.r.p.1 : Int), .int .u16 (C.r.p.2 : Int), .int .u16 (C.r.q.1 : Int), .int .u16 (C.r.q.2 : Int), .int .u8 (C.r.m.1 : Int), .int .u8 (C.r.m.2 : Int), .int .i64 C.r.act, .int .u32 (C.h.1 : Int), .int .u32 (C.h.2.1 : Int), .int .u16 (C.h.2.2.1 : Int), .int .u16 (C.h.2.2.2.1 : Int), .int .u8 (C.h.2.2.2.2 : Int)] 61))) := (Below.refl _ _).alloc (Nat.le_refl _) _
  generalize hW0 : (w.alloc (.cells #[.int .i64 C.k, .int .i64 C.n, .int .i64 C.i, .int .i64 C.r.i, .int .u32 (C.r.s : Int), .int .i64 C.r.sl, .int .u32 (C.r.d : Int), .int .i64 C.r.dl, .int .u16 (C.r.p.1 : Int), .int .u16 (C.r.p.2 : Int), .int .u16 (C.r.q.1 : Int), .int .u16 (C.r.q.2 : Int), .int .u8 (C.r.m.1 : Int), .int .u8 (C.r.m.2 : Int), .int .i64 C.r.act, .int .u32 (C.h.1 : Int), .int .u32 (C.h.2.1 : Int), .int .u16 (C.h.2.2.1 : Int), .int .u16 (C.h.2.2.2.1 : Int), .int .u8 (C.h.2.2.2.2 : Int)] 61)) = W0 at *
  have c0 : W0.cell? ⟨w.heap.size, 0, none⟩ = some (.int .i64 C.k) := blk_cell HX.out rfl
  have d1 : ¬ C.k < 1 := by omega
  have d1' : decide (C.k < 1) = false := decide_eq_false d1
  have d2 : ¬ 10 < C.k := by omega
  have kU := fun (y : Kin W0) => withoutUsedC C y.val
  have kN := fun (y : Kin W0) => isNumberC C.n bd.2.1 y.val
  have kI := fun (y : Kin W0) => isNumberC C.i bd.2.2.1 y.val
  have hR := fun W => checkRC C.r W bd.2.2.2.1
  have hE : ∀ W : World, Sem.run Tryz.prog (binOp .neq 61 (.agg #[.int .i64 (unV C).k, .int .i64 (unV C).n, .int .i64 (unV C).i, .int .i64 (unV C).r.i, .int .u32 ((unV C).r.s : Int), .int .i64 (unV C).r.sl, .int .u32 ((unV C).r.d : Int), .int .i64 (unV C).r.dl, .int .u16 ((unV C).r.p.1 : Int), .int .u16 ((unV C).r.p.2 : Int), .int .u16 ((unV C).r.q.1 : Int), .int .u16 ((unV C).r.q.2 : Int), .int .u8 ((unV C).r.m.1 : Int), .int .u8 ((unV C).r.m.2 : Int), .int .i64 (unV C).r.act, .int .u32 ((unV C).h.1 : Int), .int .u32 ((unV C).h.2.1 : Int), .int .u16 ((unV C).h.2.2.1 : Int), .int .u16 ((unV C).h.2.2.2.1 : Int), .int .u8 ((unV C).h.2.2.2.2 : Int)]) (.agg #[.int .i64 C.k, .int .i64 0, .int .i64 0, .int .i64 0, .int .u32 0, .int .i64 0, .int .u32 0, .int .i64 0, .int .u16 0, .int .u16 0, .int .u16 0, .int .u16 0, .int .u8 0, .int .u8 0, .int .i64 0, .int .u32 0, .int .u32 0, .int .u16 0, .int .u16 0, .int .u8 0])) W = .ok (.bool (!eqCv (unV C) (kindV C.k))) W := fun W => neCv_any (unV C) (kindV C.k) W
  rw [e1] at hE
  rw [e2] at kN
  rw [e3] at kI
  generalize unV C = U at *
  clear h1 h2 bd hR e1 e2 e3
  have kne : Nonempty (Kin W0) := ⟨⟨_, Below.refl _ _⟩⟩
  have kc0 : ∀ y : Kin W0, y.val.cell? ⟨w.heap.size, 0, none⟩ = some (.int .i64 C.k) := fun y => cell_on1 y.is (blk_cell HX.out rfl)
  have kc1 : ∀ y : Kin W0, y.val.cell? ⟨w.heap.size, 1, none⟩ = some (.int .i64 C.n) := fun y => cell_on1 y.is (blk_cell HX.out rfl)
  have kc2 : ∀ y : Kin W0, y.val.cell? ⟨w.heap.size, 2, none⟩ = some (.int .i64 C.i) := fun y => cell_on1 y.is (blk_cell HX.out rfl)
  go_enter Tryz.func20, Tryz.ntmps20
  go_upto_region 3 with (fail)
  try rw [hW0]
  clear hW0
  refine wp_region_kin W0 (Below.refl _ _) (by kernel_rfl) (by kernel_rfl) ?_
  refine wpQuiet_load_blk rfl 61 (.tmp 1) rfl w.heap.size #[.int .i64 C.k, .int .i64 C.n, .int .i64 C.i, .int .i64 C.r.i, .int .u32 (C.r.s : Int), .int .i64 C.r.sl, .int .u32 (C.r.d : Int), .int .i64 C.r.dl, .int .u16 (C.r.p.1 : Int), .int .u16 (C.r.p.2 : Int), .int .u16 (C.r.q.1 : Int), .int .u16 (C.r.q.2 : Int), .int .u8 (C.r.m.1 : Int), .int .u8 (C.r.m.2 : Int), .int .i64 C.r.act, .int .u32 (C.h.1 : Int), .int .u32 (C.h.2.1 : Int), .int .u16 (C.h.2.2.1 : Int), .int .u16 (C.h.2.2.2.1 : Int), .int .u8 (C.h.2.2.2.2 : Int)] rfl (fun w' ⟨y, hy⟩ => ⟨61, (0, 0), hy ▸ blk_on HX.out y.is⟩) Tryz.underlying61 rfl (by kernel_rfl) ?_
  simp only [List.getElem_toArray, List.getElem_cons_succ, List.getElem_cons_zero, Act.put, List.setIfInBounds_toArray, List.set_cons_zero, List.set_cons_succ]
  repeat (go_big_quiet_step ((first | (go_at_call 37; exact kin_call (kU _)) | (go_at_call 38; first | exact kin_same (kN _) | exact kin_same (kI _)))))
  refine wpQuiet_nil ?_
  rintro wq ⟨⟨xq, hxq⟩, hyq⟩
  have HQ : Hid (Below W0.heap.size W0 wq) := by show Below _ _ _; rw [hyq]; exact hxq
  clear hyq hxq xq kne kc0 kc1 kc2
  have g0 : wq.cell? ⟨w.heap.size, 0, none⟩ = some (.int .i64 C.k) := cell_on1 HQ.out c0
  clear c0
  go_wp2_with (fail)
  go_ret
  exact ⟨rfl, HB.out.trans (HQ.out.mono HB.out.size)⟩
theorem checkCommandC (C : Cv) (bd : BdV C) (w : World) : Calls Tryz.prog 20 #[.agg #[.int .i64 C.k, .int .i64 C.n, .int .i64 C.i, .int .i64 C.r.i, .int .u32 (C.r.s : Int), .int .i64 C.r.sl, .int .u32 (C.r.d : Int), .int .i64 C.r.dl, .int .u16 (C.r.p.1 : Int), .int .u16 (C.r.p.2 : Int), .int .u16 (C.r.q.1 : Int), .int .u16 (C.r.q.2 : Int), .int .u8 (C.r.m.1 : Int), .int .u8 (C.r.m.2 : Int), .int .i64 C.r.act, .int .u32 (C.h.1 : Int), .int .u32 (C.h.2.1 : Int), .int .u16 (C.h.2.2.1 : Int), .int .u16 (C.h.2.2.2.1 : Int), .int .u8 (C.h.2.2.2.2 : Int)]] w fun e w' => e = .returned (.int .i64 (errV C)) ∧ Below w.heap.size w w' := by
  unfold errV
  by_cases h : C.k < 1 ∨ 10 < C.k
  · rw [if_pos h]; exact checkCmdKind C w h
  · rw [if_neg h]
    unfold okF
    cases e1 : eqCv (unV C) (kindV C.k)
    · exact checkCmdA C bd w (by omega) (by omega) e1
    · cases e2 : isN C.n
      · exact checkCmdB C bd w (by omega) (by omega) e1 e2
      · cases e3 : isN C.i
        · exact checkCmdD C bd w (by omega) (by omega) e1 e2 e3
        · by_cases hk : C.k = 1
          · simp only [Bool.and_self, if_true, if_pos hk]
            exact checkCmdE C bd w (by omega) (by omega) e1 e2 e3 hk
          · simp only [Bool.and_self, if_true, if_neg hk]
            exact checkCmdG C bd w (by omega) (by omega) e1 e2 e3 hk
end Go.Proofs.YtehedlgdencboabGreatDoor
/-
  Rows of bytes: a text put behind, a byte put behind, the row as a text.
-/
namespace Go.Proofs.YtehedlgdencboabGreatDoor
open Go.RowKit
set_option linter.unusedVariables false
set_option linter.unusedSimpArgs false

def byC (l : List UInt8) : List Value := l.map fun b => .int .u8 (b.toNat : Int)
/-- The row v of w holds the bytes. -/
def RowY (w : World) (base : Nat) (v : Value) (l : List UInt8) : Prop := w.ownsRow base 5 1 v l.length (byC l)
theorem infoY : (Tryz.prog.info? 5).map (fun i => (i.zero, i.size, i.bytes)) = some (some (.int .u8 0), 1, 1) := by kernel_rfl
theorem byC_app (l m : List UInt8) : byC (l ++ m) = byC l ++ byC m := by unfold byC; exact List.map_append ..
theorem byC_len (l : List UInt8) : (byC l).length = l.length := by unfold byC; exact List.length_map ..
theorem byC_one (l : List UInt8) : ∀ u ∈ byC l, u.oneCell' = true := by
  intro u hu
  unfold byC at hu
  obtain ⟨b, _, rfl⟩ := List.mem_map.1 hu
  rfl
theorem RowY.on {w w1 : World} {b : Nat} {v : Value} {l : List UInt8} (h : RowY w b v l) (hb : Below w.heap.size w w1) : RowY w1 b v l := by
  refine ⟨h.1, ?_⟩
  rcases h.2 with h2 | ⟨g, cap, cur, hv, hg, hh, r⟩
  · exact .inl h2
  · exact .inr ⟨g, cap, cur, hv, hg, by rw [hb.block g (Array.getElem?_eq_some_iff.1 hh).1]; exact hh, r⟩
theorem RowY.alloc {w : World} {b : Nat} {v : Value} {l : List UInt8} (h : RowY w b v l) (o : Obj) : RowY (w.alloc o) b v l := World.ownsRow.alloc h o
theorem RowY.nil (w : World) (b : Nat) : RowY w b (.slice none 0 0) [] := World.ownsRow_nil w b _ _
theorem RowY.lt {w : World} {b : Nat} {v : Value} {l : List UInt8} (h : RowY w b v l) : ∀ k, v.ownBlock = some k → b ≤ k ∧ k < w.heap.size := World.ownsRow.lt h
theorem RowY.one (w : World) (b : Nat) (c : UInt8) (hb : b ≤ w.heap.size) : RowY (w.alloc (.cells #[.int .u8 (c.toNat : Int)] 5)) b (.slice (some ⟨w.heap.size, 0, none⟩) 1 1) [c] :=
  World.ownsRow_lit w #[.int .u8 (c.toNat : Int)] 1 hb (by simp [maxLen]) rfl
theorem RowY.form {w : World} {b : Nat} {v : Value} {l : List UInt8} (h : RowY w b v l) : ∃ (ad : Option Addr) (cap : Nat), v = .slice ad l.length cap ∧ l.length ≤ cap ∧ (0 < l.length → ∃ g, ad = some ⟨g, 0, none⟩ ∧ ∀ k (hk : k < l.length), w.cell? ⟨g, k, none⟩ = some (.int .u8 ((l[k]'hk).toNat : Int))) := by
  rcases h.2 with ⟨hv, hn⟩ | ⟨g, cap, cur, hv, hb, hg, hcap, r⟩
  · exact ⟨none, 0, by rw [hv, hn], by omega, fun h0 => by omega⟩
  · subst hv
    refine ⟨_, cap, rfl, hcap, fun _ => ⟨g, rfl, fun k hk => ?_⟩⟩
    have h' : w.ownsRow b 5 1 (.slice (some ⟨g, 0, none⟩) l.length cap) l.length (byC l) := h
    rw [h'.cellAt k (by omega)]
    unfold byC
    rw [List.getElem?_map, List.getElem?_eq_getElem hk]
    rfl
theorem wpList_appendYS {ops : Array Oper} {rest : List Oper} {o : Oper} {a : Act} {w : World} {Q : Exit → Act → World → Prop} (hgd : o.guard = none) (s x : Operand)
    (ho : o.op = .call { callee := .builtin .append, args := #[s, x], argTypes := #[64, 9] })
    (b : Nat) (v : Value) (l : List UInt8) (hs : a.eval s = v) (h : RowY w b v l) (t : ByteArray) (hx : a.eval x = .string t)
    (hb : b ≤ w.heap.size) (hsz : l.length + t.size ≤ 4294967296)
    (hK : ∀ v' w', RowY w' b v' (l ++ t.data.toList) → w.grownBy w' v.ownBlock → wpList Tryz.prog ops Q rest (a.put o.dst v') w') : wpList Tryz.prog ops Q (o :: rest) a w := by
  refine wpList_plain hgd fun _ hK' => ?_
  obtain ⟨i0, hi, hz0, hz1, hz2⟩ := info_parts infoY
  obtain ⟨v', w', hr, h2, h3, _⟩ := Go.Lib.run_append_own_string (P := Tryz.prog) (w := w) b 64 9 o.type 5 i0 Tryz.underlying64 Tryz.underlying9 hi hz0 hz1 hz2 v l.length (byC l) h t (by unfold maxLen; omega) (by omega) hb
  unfold Oper.wp execOp
  simp only [ho, resolve, invoke, builtin, Sem.run_bind, Sem.run_pure, Result.andThen_ok, List.map_toArray, List.map_cons, List.map_nil, hs, hx, hr]
  refine hK' _ _ (hK v' w' ?_ h3)
  unfold RowY
  rw [List.length_append, byC_app, size_len]
  exact h2
theorem wpList_appendY {ops : Array Oper} {rest : List Oper} {o : Oper} {a : Act} {w : World} {Q : Exit → Act → World → Prop} (hgd : o.guard = none) (s x : Operand)
    (ho : o.op = .call { callee := .builtin .append, args := #[s, x], argTypes := #[64, 64] })
    (b : Nat) (v : Value) (l : List UInt8) (hs : a.eval s = v) (h : RowY w b v l) (g cap : Nat) (k : List UInt8) (hx : a.eval x = .slice (some ⟨g, 0, none⟩) k.length cap) (c : Nat) (hk : RowY w c (.slice (some ⟨g, 0, none⟩) k.length cap) k)
    (hb : b ≤ w.heap.size) (hsz : l.length + k.length ≤ 4294967296)
    (hK : ∀ v' w', RowY w' b v' (l ++ k) → w.grownBy w' v.ownBlock → wpList Tryz.prog ops Q rest (a.put o.dst v') w') : wpList Tryz.prog ops Q (o :: rest) a w := by
  refine wpList_plain hgd fun _ hK' => ?_
  obtain ⟨i0, hi, hz0, hz1, hz2⟩ := info_parts infoY
  have hmx : l.length + k.length ≤ maxLen := by unfold maxLen; omega
  have hcap : k.length ≤ cap := by
    rcases hk.2 with ⟨hv, _⟩ | ⟨g', cap', cur, hv, _, _, hc, _⟩
    · cases hv
    · cases hv; exact hc
  have hn := World.ownsRow.cells hk (g := g) rfl
  obtain ⟨v', w', hr, h2, h3, _⟩ := run_append_own (P := Tryz.prog) w b 64 o.type 5 i0 (.int .u8 0) 1 1 Tryz.underlying64 hi hz0 hz1 hz2 rfl (by decide) v l.length (byC l) h ⟨g, 0, none⟩ k.length cap (byC k) (by rw [byC_len, Nat.mul_one]) hn (byC_one k) hmx (by omega) hb
  unfold Oper.wp execOp
  simp only [ho, resolve, invoke, builtin, Sem.run_bind, Sem.run_pure, Result.andThen_ok, List.map_toArray, List.map_cons, List.map_nil, hs, hx, hr]
  refine hK' _ _ (hK v' w' ?_ h3)
  unfold RowY
  rw [List.length_append, byC_app]
  exact h2
theorem convNil (w : World) (c : Nat) : (convert 64 9 (.slice none 0 c)).run Tryz.prog w = .ok (.string (mkB [])) w := by
  rw [run_convert_bytes_string w 64 9 5 none 0 c Tryz.underlying64 Tryz.underlying5 Tryz.underlying9]
  rfl
theorem RowY.str {w : World} {b : Nat} {v : Value} {l : List UInt8} (h : RowY w b v l) : (convert 64 9 v).run Tryz.prog w = .ok (.string (mkB l)) w := by
  obtain ⟨ad, cap, rfl, _, h2⟩ := h.form
  rcases Nat.eq_zero_or_pos l.length with c | c
  · have hl := List.eq_nil_of_length_eq_zero c
    subst hl
    rcases h.2 with ⟨hv, _⟩ | ⟨g, cap', cur, hv, _⟩
    · cases hv; exact convNil w _
    · cases hv
      exact run_convert_bytes_back (P := Tryz.prog) w 64 9 5 ⟨g, 0, none⟩ _ [] Tryz.underlying64 Tryz.underlying5 Tryz.underlying9 (fun j hj => by simp at hj)
  · obtain ⟨g, rfl, h3⟩ := h2 c
    exact run_convert_bytes_back (P := Tryz.prog) w 64 9 5 ⟨g, 0, none⟩ cap l Tryz.underlying64 Tryz.underlying5 Tryz.underlying9 (fun j hj => by have := h3 j hj; unfold Addr.add; split <;> simp_all)
end Go.Proofs.YtehedlgdencboabGreatDoor
/-
  What is printed of rules: a rule, a list; the first error; Print and PrintHeader.
-/
namespace Go.Proofs.YtehedlgdencboabGreatDoor
open Go.RowKit
set_option linter.unusedVariables false
set_option linter.unusedSimpArgs false
variable {zA zC : TypeId × (Nat × Nat)}

def rpOf (R : Ru) : Rp := ⟨R.i.toNat, R.act.toNat, (R.s, R.sl.toNat), (R.d, R.dl.toNat), R.p, R.q, R.m⟩
theorem rp_ru (R : Rp) : rpOf (ruOf R) = R := by
  obtain ⟨i, t, ⟨s, sl⟩, ⟨d, dl⟩, p, q, m⟩ := R
  simp [rpOf, ruOf]
theorem ru_rp {R : Ru} (h : (errs R).1 = 0) : ruOf (rpOf R) = R := by
  unfold errs at h
  rw [firstE_ok] at h
  simp only [List.mem_cons, List.not_mem_nil, or_false, forall_eq_or_imp, forall_eq, errI_ok, errA_ok, errS_ok, chkm_ok] at h
  obtain ⟨g1, g2, g3, g4, g5, g6, g7⟩ := h
  obtain ⟨a, ea, _⟩ := Pf.chk_ok g2
  obtain ⟨b, eb, _⟩ := Pf.chk_ok g3
  obtain ⟨i, s, sl, d, dl, p, q, m, act⟩ := R
  simp only at g1 g7 ea eb
  simp only [rpOf, ruOf, Ru.mk.injEq]
  simp only [true_and]
  omega
theorem ru_chk {R : Ru} (h : (errs R).1 = 0) : (chkN (rpOf R)).1 = 0 := by
  unfold chkN
  rw [ru_rp h, h]
  rfl
theorem ru_bd {R : Ru} (b : BdR R) (h : (errs R).1 = 0) : BdRp (rpOf R) := by
  obtain ⟨b1, b2, b3, b4, b5, b6, b7, b8, _⟩ := b
  unfold errs at h
  rw [firstE_ok] at h
  simp only [List.mem_cons, List.not_mem_nil, or_false, forall_eq_or_imp, forall_eq, errI_ok, errA_ok, errS_ok, chkm_ok] at h
  obtain ⟨g1, g2, g3, g4, g5, g6, g7⟩ := h
  obtain ⟨a, ea, ha, _⟩ := Pf.chk_ok g2
  obtain ⟨b, eb, hb, _⟩ := Pf.chk_ok g3
  exact ⟨by simp only [rpOf]; omega, by simp only [rpOf]; omega, ⟨b1, by simp only [rpOf]; omega⟩, ⟨b2, by simp only [rpOf]; omega⟩, ⟨by simp only [rpOf]; omega, by simp only [rpOf]; omega⟩, ⟨by simp only [rpOf]; omega, by simp only [rpOf]; omega⟩, ⟨by simp only [rpOf]; omega, by simp only [rpOf]; omega⟩⟩
theorem ru_ok {R : Ru} (b : BdR R) (h : (errs R).1 = 0) : OkRp (rpOf R) := chk_okRp _ (ru_bd b h) (ru_chk h)
theorem chk_err {R : Rp} (h : (chkN R).1 = 0) : (errs (ruOf R)).1 = 0 := by
  have := (errs_bd (ruOf R)).1
  simp only [chkN] at h
  omega
/-- The first error of a list of rules, some standing ahead. -/
def prE (a : List Ru) : List Ru → Int
  | [] => 0
  | R :: l => if (errs R).1 = 0 then (if (a.any fun y => decide (y.i = R.i)) = true then 103 else prE (a ++ [R]) l) else (errs R).1
def errL (l : List Ru) : Int := if 64 < l.length then 2 else prE [] l
def rtx (R : Ru) : List UInt8 := if (errs R).1 = 0 then textP (ruleP (rpOf R)) else []
def ltx (l : List Ru) : List UInt8 := if errL l = 0 then rulesB (l.map rpOf) else []
theorem prE_step {l : List Ru} {k : Nat} (hk : k < l.length) : prE (l.take k) (l.drop k) = if (errs (l[k]'hk)).1 = 0 then (if ((l.take k).any fun y => decide (y.i = (l[k]'hk).i)) = true then 103 else prE (l.take (k + 1)) (l.drop (k + 1))) else (errs (l[k]'hk)).1 := by
  rw [List.drop_eq_getElem_cons hk, List.take_succ_eq_append_getElem hk]
  rfl
theorem prE_end {l : List Ru} : prE (l.take l.length) (l.drop l.length) = 0 := by rw [List.drop_length]; rfl
theorem rulesB_step {l : List Ru} {k : Nat} (hk : k < l.length) : rulesB ((l.take (k + 1)).map rpOf) = rulesB ((l.take k).map rpOf) ++ textP (ruleP (rpOf (l[k]'hk))) ++ [10] := by
  rw [List.take_succ_eq_append_getElem hk]
  simp only [rulesB, textL, lineB, List.map_append, List.map_cons, List.map_nil, List.flatMap_append, List.flatMap_cons, List.flatMap_nil, List.append_nil, List.append_assoc]
theorem any_i {a : List Ru} {x : Int} (h : (a.any fun y => decide (y.i = x)) = false) : ∀ y ∈ a, y.i ≠ x := by
  intro y hy e
  have : (a.any fun y => decide (y.i = x)) = true := List.any_eq_true.2 ⟨y, hy, by simpa using e⟩
  rw [h] at this; cases this
theorem prE_ok : ∀ (l a : List Ru), prE a l = 0 → (a.map (·.i)).Nodup → (∀ R ∈ l, (errs R).1 = 0) ∧ ((a ++ l).map (·.i)).Nodup
  | [], a, _, hn => ⟨fun _ h => (by cases h), by rw [List.append_nil]; exact hn⟩
  | R :: l, a, h, hn => by
    unfold prE at h
    by_cases c : (errs R).1 = 0
    · rw [if_pos c] at h
      cases d : (a.any fun y => decide (y.i = R.i))
      · rw [d, if_neg (by decide)] at h
        have hx := any_i d
        obtain ⟨h1, h2⟩ := prE_ok l (a ++ [R]) h (by
          rw [List.map_append, List.nodup_append]
          refine ⟨hn, by simp, ?_⟩
          intro x hx1 y hy e
          obtain ⟨z, hz, rfl⟩ := List.mem_map.1 hx1
          simp only [List.map_cons, List.map_nil, List.mem_cons, List.not_mem_nil, or_false] at hy
          exact hx z hz (e.trans hy))
        refine ⟨fun Q hQ => ?_, by simpa using h2⟩
        rcases List.mem_cons.1 hQ with rfl | hQ
        · exact c
        · exact h1 Q hQ
      · rw [d, if_pos rfl] at h
        cases h
    · rw [if_neg c] at h
      exact absurd h c
theorem prE_mk : ∀ (l a : List Ru), (∀ R ∈ l, (errs R).1 = 0) → ((a ++ l).map (·.i)).Nodup → prE a l = 0
  | [], a, _, _ => rfl
  | R :: l, a, h, hn => by
    unfold prE
    rw [if_pos (h R (List.mem_cons_self ..))]
    have hf : (a.any fun y => decide (y.i = R.i)) = false := by
      cases d : (a.any fun y => decide (y.i = R.i))
      · rfl
      · exfalso
        obtain ⟨y, hy, e⟩ := List.any_eq_true.1 d
        rw [List.map_append, List.nodup_append] at hn
        exact hn.2.2 y.i (List.mem_map_of_mem hy) R.i (by simp) (of_decide_eq_true e)
    rw [hf, if_neg (by decide)]
    exact prE_mk l (a ++ [R]) (fun Q hQ => h Q (List.mem_cons_of_mem _ hQ)) (by simpa using hn)
theorem map_ru {l : List Ru} (h : ∀ R ∈ l, (errs R).1 = 0) : (l.map rpOf).map ruOf = l := by
  rw [List.map_map]
  conv => rhs; rw [← List.map_id l]
  exact List.map_congr_left fun R hR => ru_rp (h R hR)
theorem map_rp (l : List Rp) : (l.map ruOf).map rpOf = l := by
  rw [List.map_map]
  conv => rhs; rw [← List.map_id l]
  exact List.map_congr_left fun R hR => rp_ru R
theorem nodup_i : ∀ {l : List Ru}, (∀ R ∈ l, (errs R).1 = 0) → (l.map (·.i)).Nodup → ((l.map rpOf).map (·.i)).Nodup
  | [], _, _ => List.nodup_nil
  | R :: l, h, hn => by
    simp only [List.map_cons, List.nodup_cons] at hn ⊢
    refine ⟨fun c => hn.1 ?_, nodup_i (fun Q hQ => h Q (List.mem_cons_of_mem _ hQ)) hn.2⟩
    rw [List.map_map] at c
    obtain ⟨Q, hQ, e⟩ := List.mem_map.1 c
    have e1 := congrArg Ru.i (ru_rp (h R (List.mem_cons_self ..)))
    have e2 := congrArg Ru.i (ru_rp (h Q (List.mem_cons_of_mem _ hQ)))
    refine List.mem_map.2 ⟨Q, hQ, ?_⟩
    rw [← e1, ← e2]
    exact congrArg Int.ofNat e
/-- A list that is printed may be. -/
theorem errL_ok {l : List Ru} (b : ∀ R ∈ l, BdR R) (h : errL l = 0) : GoodR chkN (l.map rpOf) ∧ (l.map rpOf).map ruOf = l := by
  unfold errL at h
  by_cases c : 64 < l.length
  · rw [if_pos c] at h; cases h
  · rw [if_neg c] at h
    obtain ⟨h1, h2⟩ := prE_ok l [] h List.nodup_nil
    refine ⟨⟨fun R hR => ?_, by rw [List.length_map]; omega, nodup_i h1 h2⟩, map_ru h1⟩
    obtain ⟨Q, hQ, rfl⟩ := List.mem_map.1 hR
    exact ⟨ru_bd (b Q hQ) (h1 Q hQ), ru_chk (h1 Q hQ)⟩
theorem errL_good {l : List Rp} (g : GoodR chkN l) : errL (l.map ruOf) = 0 := by
  unfold errL
  rw [if_neg (by rw [List.length_map]; have := g.len; omega)]
  refine prE_mk _ _ (fun R hR => ?_) ?_
  · obtain ⟨Q, hQ, rfl⟩ := List.mem_map.1 hR
    exact chk_err (g.all Q hQ).2
  · have := g.two
    rw [List.nil_append, List.map_map]
    have e : (fun R : Rp => (R.i : Int)) = (·.i) ∘ ruOf := rfl
    rw [← e]
    have e2 : l.map (fun R : Rp => (R.i : Int)) = (l.map (·.i)).map Int.ofNat := by rw [List.map_map]; rfl
    rw [e2]
    exact List.Pairwise.map _ (fun a b h e => h (Int.ofNat.inj e)) this
theorem ruleTextU (R : Ru) (b : BdR R) (h : (errs R).1 = 0) (w : World) (hp : Pw w) (hA : ActAt zA w) :
    Calls Tryz.prog 26 #[.agg #[.int .i64 R.i, .int .u32 (R.s : Int), .int .i64 R.sl, .int .u32 (R.d : Int), .int .i64 R.dl, .int .u16 (R.p.1 : Int), .int .u16 (R.p.2 : Int), .int .u16 (R.q.1 : Int), .int .u16 (R.q.2 : Int), .int .u8 (R.m.1 : Int), .int .u8 (R.m.2 : Int), .int .i64 R.act]] w fun e w' => e = .returned (.string (mkB (textP (ruleP (rpOf R))))) ∧ Below w.heap.size w w' := by
  have hC := ruleTextC (rpOf R) (ru_ok b h) w hp hA
  have e := ru_rp h
  generalize rpOf R = Q at *
  subst e
  exact hC
set_option maxRecDepth 20000 in
set_option maxHeartbeats 8000000 in
theorem printC (R : Ru) (bd : BdR R) (w : World) (hp : Pw w) (hA : ActAt zA w) :
    Calls Tryz.prog 14 #[.agg #[.int .i64 R.i, .int .u32 (R.s : Int), .int .i64 R.sl, .int .u32 (R.d : Int), .int .i64 R.dl, .int .u16 (R.p.1 : Int), .int .u16 (R.p.2 : Int), .int .u16 (R.q.1 : Int), .int .u16 (R.q.2 : Int), .int .u8 (R.m.1 : Int), .int .u8 (R.m.2 : Int), .int .i64 R.act]] w fun e w' => e = .returned (.tuple #[.string (mkB (rtx R)), .int .i64 (errs R).1]) ∧ Below w.heap.size w w' := by
  have hC := fun W => checkRC R W bd
  have HG : Hid ((w.alloc (.cells #[.int .i64 R.i, .int .u32 (R.s : Int), .int .i64 R.sl, .int .u32 (R.d : Int), .int .i64 R.dl, .int .u16 (R.p.1 : Int), .int .u16 (R.p.2 : Int), .int .u16 (R.q.1 : Int), .int .u16 (R.q.2 : Int), .int .u8 (R.m.1 : Int), .int .u8 (R.m.2 : Int), .int .i64 R.act] 52)).heap[w.heap.size]? = some (.cells #[.int .i64 R.i, .int .u32 (R.s : Int), .int .i64 R.sl, .int .u32 (R.d : Int), .int .i64 R.dl, .int .u16 (R.p.1 : Int), .int .u16 (R.p.2 : Int), .int .u16 (R.q.1 : Int), .int .u16 (R.q.2 : Int), .int .u8 (R.m.1 : Int), .int .u8 (R.m.2 : Int), .int .i64 R.act] 52)) := blk_new w _
  have HB : Hid (Below w.heap.size w (w.alloc (.cells #[.int .i64 R.i, .int .u32 (R.s : Int), .int .i64 R.sl, .int .u32 (R.d : Int), .int .i64 R.dl, .int .u16 (R.p.1 : Int), .int .u16 (R.p.2 : Int), .int .u16 (R.q.1 : Int), .int .u16 (R.q.2 : Int), .int .u8 (R.m.1 : Int), .int .u8 (R.m.2 : Int), .int .i64 R.act] 52))) := (Below.refl _ _).alloc (Nat.le_refl _) _
  have HP : Hid (Pw (w.alloc (.cells #[.int .i64 R.i, .int .u32 (R.s : Int), .int .i64 R.sl, .int .u32 (R.d : Int), .int .i64 R.dl, .int .u16 (R.p.1 : Int), .int .u16 (R.p.2 : Int), .int .u16 (R.q.1 : Int), .int .u16 (R.q.2 : Int), .int .u8 (R.m.1 : Int), .int .u8 (R.m.2 : Int), .int .i64 R.act] 52))) := hp.alloc _
  have HA : Hid (ActAt zA (w.alloc (.cells #[.int .i64 R.i, .int .u32 (R.s : Int), .int .i64 R.sl, .int .u32 (R.d : Int), .int .i64 R.dl, .int .u16 (R.p.1 : Int), .int .u16 (R.p.2 : Int), .int .u16 (R.q.1 : Int), .int .u16 (R.q.2 : Int), .int .u8 (R.m.1 : Int), .int .u8 (R.m.2 : Int), .int .i64 R.act] 52))) := blk_alloc hA _
  obtain ⟨W0, hW0⟩ : ∃ W0, W0 = w.alloc (.cells #[.int .i64 R.i, .int .u32 (R.s : Int), .int .i64 R.sl, .int .u32 (R.d : Int), .int .i64 R.dl, .int .u16 (R.p.1 : Int), .int .u16 (R.p.2 : Int), .int .u16 (R.q.1 : Int), .int .u16 (R.q.2 : Int), .int .u8 (R.m.1 : Int), .int .u8 (R.m.2 : Int), .int .i64 R.act] 52) := ⟨_, rfl⟩
  rw [← hW0] at HG HB HP HA
  by_cases he : (errs R).1 = 0
  · have hT := fun W hp (hA : ActAt zA W) => ruleTextU R bd he W hp hA
    have ht : rtx R = textP (ruleP (rpOf R)) := if_pos he
    rw [← ht] at hT
    rw [he] at hC ⊢
    generalize (errs R).2 = k at *
    generalize rtx R = T at *
    clear bd he ht hp hA
    go_enter Tryz.func14, Tryz.ntmps14
    go_upto_region 1 with (fail)
    rw [← hW0]
    clear hW0
    obtain ⟨c0, c1, c2, c3, c4, c5, c6, c7, c8, c9, c10, c11⟩ := blk12 HG.out
    go_wp2_with (fail)
    refine (hC _).mono ?_
    rintro e w1 ⟨rfl, hb1⟩
    have HB1 : Hid (Below w.heap.size w w1) := HB.out.trans (hb1.mono HB.out.size)
    have HG1 : Hid (w1.heap[w.heap.size]? = some (.cells #[.int .i64 R.i, .int .u32 (R.s : Int), .int .i64 R.sl, .int .u32 (R.d : Int), .int .i64 R.dl, .int .u16 (R.p.1 : Int), .int .u16 (R.p.2 : Int), .int .u16 (R.q.1 : Int), .int .u16 (R.q.2 : Int), .int .u8 (R.m.1 : Int), .int .u8 (R.m.2 : Int), .int .i64 R.act] 52)) := blk_on HG.out hb1
    have HP1 : Hid (Pw w1) := HP.out.on hb1
    have HA1 : Hid (ActAt zA w1) := blk_on HA.out hb1
    clear hb1 c0 c1 c2 c3 c4 c5 c6 c7 c8 c9 c10 c11 hC
    obtain ⟨c0, c1, c2, c3, c4, c5, c6, c7, c8, c9, c10, c11⟩ := blk12 HG1.out
    go_wp2_with (fail)
    refine (hT _ HP1.out HA1.out).mono ?_
    rintro e w2 ⟨rfl, hb2⟩
    have HB2 : Hid (Below w.heap.size w w2) := HB1.out.trans (hb2.mono HB1.out.size)
    clear hb2 c0 c1 c2 c3 c4 c5 c6 c7 c8 c9 c10 c11 hT
    go_wp2_with (fail)
    go_ret2
    exact ⟨rfl, HB2.out⟩
  · have ht : rtx R = [] := if_neg he
    rw [ht]
    have hne : ((errs R).1 == 0) = false := by simpa using he
    generalize (errs R).2 = k at *
    generalize (errs R).1 = E at *
    clear bd he ht hp hA
    go_enter Tryz.func14, Tryz.ntmps14
    go_upto_region 1 with (fail)
    rw [← hW0]
    clear hW0
    obtain ⟨c0, c1, c2, c3, c4, c5, c6, c7, c8, c9, c10, c11⟩ := blk12 HG.out
    go_wp2_with (fail)
    refine (hC _).mono ?_
    rintro e w1 ⟨rfl, hb1⟩
    have HB1 : Hid (Below w.heap.size w w1) := HB.out.trans (hb1.mono HB.out.size)
    clear hb1 c0 c1 c2 c3 c4 c5 c6 c7 c8 c9 c10 c11 hC
    go_wp2_with (fail)
    go_ret2
    exact ⟨rfl, HB1.out⟩
set_option maxRecDepth 20000 in
set_option maxHeartbeats 8000000 in
theorem printHeaderC (h : Nat × Nat × Nat × Nat × Nat) (ok : OkHd h) (w : World) (hp : Pw w) :
    Calls Tryz.prog 16 #[.agg #[.int .u32 (h.1 : Int), .int .u32 (h.2.1 : Int), .int .u16 (h.2.2.1 : Int), .int .u16 (h.2.2.2.1 : Int), .int .u8 (h.2.2.2.2 : Int)]] w fun e w' => e = .returned (.string (mkB (textP (headP h)))) ∧ Below w.heap.size w w' := by
  have hT := fun W hp => headerTextC h ok W hp
  generalize mkB (textP (headP h)) = T at *
  go_enter Tryz.func16, Tryz.ntmps16
  go_wp2_with (fail)
  refine (hT _ (hp.alloc _)).mono ?_
  rintro e w2 ⟨rfl, hb2⟩
  have HB2 : Hid (Below w.heap.size w w2) := ((Below.refl _ _).alloc (Nat.le_refl _) _).trans (hb2.mono (by simp))
  clear hb2 hT
  go_wp2_with (fail)
  go_ret
  exact ⟨rfl, HB2.out⟩
end Go.Proofs.YtehedlgdencboabGreatDoor
/-
  PrintRules: the list's text, or the first error.
-/
namespace Go.Proofs.YtehedlgdencboabGreatDoor
open Go.RowKit
set_option linter.unusedVariables false
set_option linter.unusedSimpArgs false
variable {zA zC : TypeId × (Nat × Nat)}

theorem SrcU.take {w : World} {ad : Option Addr} {cap n : Nat} {l : List Ru} (h : SrcU w (.slice ad n cap) l) (k : Nat) (hk : k ≤ l.length) : SrcU w (.slice ad k cap) (l.take k) := by
  obtain ⟨ad', cap', e, hc, h2⟩ := h
  obtain ⟨rfl, _, rfl⟩ : ad = ad' ∧ n = l.length ∧ cap = cap' := by cases e; exact ⟨rfl, rfl, rfl⟩
  have hl : (l.take k).length = k := List.length_take_of_le hk
  refine ⟨ad, cap, by rw [hl], by omega, fun h0 => ?_⟩
  rw [hl] at h0
  obtain ⟨g, off, e, h3⟩ := h2 (by omega)
  refine ⟨g, off, e, fun j hj i hi => ?_⟩
  rw [hl] at hj
  rw [h3 j (by omega) i hi, List.getElem_take]
theorem bel_grownY {B : Nat} {a w w' : World} {b : Nat} {v : Value} {l : List UInt8} (h : Below B a w) (hr : RowY w b v l) (hg : w.grownBy w' v.ownBlock) (hB : B ≤ w.heap.size) (hb : B ≤ b) : Below B a w' :=
  h.grown hg hB fun k hk => Nat.le_trans hb (hr.lt k hk).1
theorem rulesB_nil : rulesB ([].map rpOf) = [] := rfl
set_option maxRecDepth 20000 in
set_option maxHeartbeats 16000000 in
theorem printRulesC (v : Value) (l : List Ru) (w : World) (hs : SrcU w v l) (hl : l.length ≤ 16777216) (bd : ∀ R ∈ l, BdR R) (hp : Pw w) (hA : ActAt zA w) :
    Calls Tryz.prog 11 #[v] w fun e w' => e = .returned (.tuple #[.string (mkB (ltx l)), .int .i64 (errL l)]) ∧ Below w.heap.size w w' := by
  have HSrc : Hid (SrcU w v l) := hs
  obtain ⟨ad, cap, rfl, hcap, hat⟩ := hs
  obtain ⟨n, hn⟩ : ∃ n, n = l.length := ⟨_, rfl⟩
  have Hn : Hid (n = l.length) := hn
  have hn0 : (n : Int) ≤ 16777216 := by omega
  have HP : Hid (Pw w) := hp
  have HA : Hid (ActAt zA w) := hA
  have HBd : Hid (∀ k (hk : k < l.length), BdR (l[k]'hk)) := fun k hk => bd _ (List.getElem_mem hk)
  have HAt : Hid (∀ (W : World), Below w.heap.size w W → ∀ k (hk : k < l.length), ∃ g off, ad = some ⟨g, off, none⟩ ∧ g < W.heap.size ∧ ∀ j, j < 12 → W.cell? ⟨g, off + (k * 12 + j), none⟩ = (encU (l[k]'hk))[j]?) := fun W hb k hk => by
    obtain ⟨g, off, e, h3⟩ := hat (by omega)
    have h0 := h3 k hk 0 (by decide)
    have hg : g < w.heap.size := World.block_lt_of_cell? w _ (h0.trans rfl)
    exact ⟨g, off, e, by have := hb.size; omega, fun j hj => by
      have := h3 k hk j hj
      obtain ⟨u, hu⟩ := encU_some (l[k]'hk) hj
      rw [hb.cell (p := ⟨g, off + (k * 12 + j), none⟩) hg]; exact this⟩
  rw [← hn] at hcap HSrc ⊢
  by_cases hc : 64 < n
  · have he : errL l = 2 := if_pos (by omega)
    have ht : ltx l = [] := if_neg (by rw [he]; decide)
    rw [he, ht]
    have hc' : (64 : Int) < (n : Int) := by omega
    clear HAt HBd HA HP bd hat he ht hn Hn HSrc
    go_enter Tryz.func11, Tryz.ntmps11
    go_wp2_with (fail)
    go_ret2
    exact ⟨rfl, Below.refl _ _⟩
  · have he : errL l = prE [] l := if_neg (by omega)
    have HE : Hid (errL l = prE (l.take 0) (l.drop 0)) := he
    have HT : Hid (errL l = 0 → ltx l = rulesB ((l.take l.length).map rpOf)) := fun h => by rw [List.take_length]; exact if_pos h
    have HT0 : Hid (errL l ≠ 0 → ltx l = []) := fun h => if_neg h
    have hc' : (n : Int) ≤ 64 := by omega
    clear he hat bd hn
    generalize errL l = E at *
    generalize ltx l = T at *
    go_enter Tryz.func11, Tryz.ntmps11
    go_upto_region 5 with (fail)
    go_loopw [14, 4] (fun i out wr => ∃ k : Nat, k ≤ n ∧ i = .int .i64 (k : Int) ∧ Hid (Below w.heap.size w wr) ∧ Hid (RowY wr w.heap.size out (rulesB ((l.take k).map rpOf))) ∧ Hid (E = prE (l.take k) (l.drop k)) ∧ Hid ((rulesB ((l.take k).map rpOf)).length ≤ 100 * k)) (fun i _ _ => n - (intOf i).toNat)
    case atStart => exact ⟨0, Nat.zero_le _, rfl, Below.refl _ _, RowY.nil _ _, HE.out, Nat.le_refl _⟩
    case round =>
      obtain ⟨k, hk, rfl, HB, HR, HK, HL⟩ := hrel
      by_cases hlt : k < n
      · have hkl : k < l.length := by rw [← Hn.out]; exact hlt
        have Hst := prE_step hkl
        have Hbs := rulesB_step hkl
        have hbk := HBd.out k hkl
        obtain ⟨g, off, rfl, hg, hc⟩ := HAt.out wr HB.out k hkl
        obtain ⟨p, hp⟩ : ∃ p, p = l[k]'hkl := ⟨_, rfl⟩
        rw [← hp] at hc Hst Hbs hbk
        have x0 : wr.cell? ⟨g, off + k * 12, none⟩ = some (.int .i64 p.i) := hc 0 (by decide)
        have x1 : wr.cell? ⟨g, off + k * 12 + 1, none⟩ = some (.int .u32 (p.s : Int)) := hc 1 (by decide)
        have x2 : wr.cell? ⟨g, off + k * 12 + 2, none⟩ = some (.int .i64 p.sl) := hc 2 (by decide)
        have x3 : wr.cell? ⟨g, off + k * 12 + 3, none⟩ = some (.int .u32 (p.d : Int)) := hc 3 (by decide)
        have x4 : wr.cell? ⟨g, off + k * 12 + 4, none⟩ = some (.int .i64 p.dl) := hc 4 (by decide)
        have x5 : wr.cell? ⟨g, off + k * 12 + 5, none⟩ = some (.int .u16 (p.p.1 : Int)) := hc 5 (by decide)
        have x6 : wr.cell? ⟨g, off + k * 12 + 6, none⟩ = some (.int .u16 (p.p.2 : Int)) := hc 6 (by decide)
        have x7 : wr.cell? ⟨g, off + k * 12 + 7, none⟩ = some (.int .u16 (p.q.1 : Int)) := hc 7 (by decide)
        have x8 : wr.cell? ⟨g, off + k * 12 + 8, none⟩ = some (.int .u16 (p.q.2 : Int)) := hc 8 (by decide)
        have x9 : wr.cell? ⟨g, off + k * 12 + 9, none⟩ = some (.int .u8 (p.m.1 : Int)) := hc 9 (by decide)
        have x10 : wr.cell? ⟨g, off + k * 12 + 10, none⟩ = some (.int .u8 (p.m.2 : Int)) := hc 10 (by decide)
        have x11 : wr.cell? ⟨g, off + k * 12 + 11, none⟩ = some (.int .i64 p.act) := hc 11 (by decide)
        have hlt' : (k : Int) < (n : Int) := by omega
        clear hc hp
        have HSr : Hid (SrcU w (.slice (some ⟨g, off, none⟩) k cap) (l.take k)) := HSrc.out.take k (Nat.le_of_lt hkl)
        have hkc : k ≤ cap := by omega
        have hlk : (l.take k).length ≤ 200000 := by rw [List.length_take]; omega
        have kP := fun (W : World) (h1 : Pw W) (h2 : ActAt zA W) => printC p hbk W h1 h2
        by_cases he : (errs p).1 = 0
        · rw [if_pos he] at Hst
          have ht : rtx p = textP (ruleP (rpOf p)) := if_pos he
          have hlen : Hid ((textP (ruleP (rpOf p))).length ≤ 87) := (part_rule (ru_ok hbk he)).len
          rw [he, ht] at kP
          rw [← mkB_size] at hlen
          have hml := mkB_list (textP (ruleP (rpOf p)))
          rw [← hml] at Hbs
          have HBs : Hid (_ = _) := Hbs
          have HSt : Hid (_ = _) := Hst
          clear Hbs Hst ht he hml
          generalize mkB (textP (ruleP (rpOf p))) = t at *
          have kH := fun (W : World) (h : SrcU W (.slice (some ⟨g, off, none⟩) k cap) (l.take k)) => hasIdC (.slice (some ⟨g, off, none⟩) k cap) (l.take k) p.i W h hlk
          go_wp2_with (fail)
          refine (kP _ ((HP.out.on HB.out).alloc _) (blk_alloc (blk_on HA.out HB.out) _)).mono ?_
          rintro e w1 ⟨rfl, hb1⟩
          have HB1 : Hid (Below w.heap.size w w1) := (HB.out.alloc HB.out.size _).trans (hb1.mono (by have := HB.out.size; simp; omega))
          have HR1 : Hid (RowY w1 w.heap.size _ (rulesB ((l.take k).map rpOf))) := (HR.out.alloc _).on hb1
          have HG1 : Hid (w1.heap[wr.heap.size]? = some (.cells #[.int .i64 p.i, .int .u32 (p.s : Int), .int .i64 p.sl, .int .u32 (p.d : Int), .int .i64 p.dl, .int .u16 (p.p.1 : Int), .int .u16 (p.p.2 : Int), .int .u16 (p.q.1 : Int), .int .u16 (p.q.2 : Int), .int .u8 (p.m.1 : Int), .int .u8 (p.m.2 : Int), .int .i64 p.act] 52)) := blk_on (blk_new wr _) hb1
          have HS1 : Hid (SrcU w1 (.slice (some ⟨g, off, none⟩) k cap) (l.take k)) := HSr.out.keep HB1.out
          clear x0 x1 x2 x3 x4 x5 x6 x7 x8 x9 x10 x11 hb1 kP HR HSr hg
          have kH1 := fun (y : Kin w1) => kH y.val (HS1.out.keep y.is)
          clear kH
          cases hd : ((l.take k).any fun y => decide (y.i = p.i))
          · rw [hd, if_neg (by decide)] at HSt
            rw [hd] at kH1
            have hz : w.heap.size ≤ w1.heap.size := HB1.out.size
            have hsz : (rulesB ((l.take k).map rpOf)).length + t.size ≤ 20000 := by have := HL.out; have := hlen.out; omega
            generalize rulesB ((l.take k).map rpOf) = B0 at *
            clear hd
            go_upto_region 10 with (fail)
            have kc0 : ∀ y : Kin w1, y.val.cell? ⟨wr.heap.size, 0, none⟩ = some (.int .i64 p.i) := fun y => cell_on1 y.is (blk_cell HG1.out rfl)
            have kne : Nonempty (Kin w1) := ⟨⟨_, Below.refl _ _⟩⟩
            refine wp_region_kin w1 (Below.refl _ _) (by kernel_rfl) (by kernel_rfl) ?_
            repeat (go_big_quiet_step ((go_at_call 22; exact kin_call (kH1 _))))
            refine wpQuiet_nil ?_
            rintro wq ⟨⟨xq, hxq⟩, hyq⟩
            have hq : Below w1.heap.size w1 wq := by rw [hyq]; exact hxq
            clear hyq hxq xq kne kc0
            have HB2 : Hid (Below w.heap.size w wq) := HB1.out.trans (hq.mono hz)
            have HR2 : Hid (RowY wq w.heap.size _ B0) := HR1.out.on hq
            have hz2 : w.heap.size ≤ wq.heap.size := HB2.out.size
            clear hq HR1 HB1 HG1 HS1 kH1 HP HA HBd HAt HSrc HT HT0 HE
            go_upto_region 13 with (at_builtin; refine wpList_appendYS rfl (.tmp 33) (.tmp 34) rfl w.heap.size _ B0 rfl HR2.out t rfl hz2 (by omega) ?_; intro v5 w5 hrow5 hgr5)
            have HB5 : Hid (Below w.heap.size w w5) := bel_grownY HB2.out HR2.out hgr5 hz2 (Nat.le_refl _)
            have HR5 : Hid (RowY w5 w.heap.size v5 (B0 ++ t.data.toList)) := hrow5
            have hz5 : w.heap.size ≤ w5.heap.size := HB5.out.size
            have hs5 : (B0 ++ t.data.toList).length ≤ 20000 := by rw [List.length_append, size_len]; omega
            clear hgr5 hrow5 HR2 HB2
            generalize hB5 : B0 ++ t.data.toList = B5 at *
            have H5 : Hid (B0 ++ t.data.toList = B5) := hB5
            clear hB5
            go_wp2_with (at_builtin; refine wpList_appendY rfl (.tmp 36) (.tmp 37) rfl w.heap.size _ B5 rfl (HR5.out.alloc _) w5.heap.size 1 [10] rfl w.heap.size (RowY.one w5 w.heap.size 10 hz5) (by simp; omega) (by simp; omega) ?_; intro v6 w6 hrow6 hgr6)
            have HB6 : Hid (Below w.heap.size w w6) := bel_grownY (HB5.out.alloc hz5 _) (HR5.out.alloc _) hgr6 (by simp; omega) (Nat.le_refl _)
            have HR6 : Hid (RowY w6 w.heap.size v6 (rulesB ((l.take (k + 1)).map rpOf))) := by show RowY _ _ _ _; rw [HBs.out]; exact hrow6
            have HL6 : Hid ((rulesB ((l.take (k + 1)).map rpOf)).length ≤ 100 * (k + 1)) := by
              show _ ≤ _
              have e1 := HL.out
              have e2 := hlen.out
              rw [HBs.out, ← H5.out, List.length_append, List.length_append, size_len]
              simp only [List.length_cons, List.length_nil]
              omega
            have HK6 : Hid (E = prE (l.take (k + 1)) (l.drop (k + 1))) := HK.out.trans HSt.out
            clear hrow6 hgr6 HR5 HB5 HBs H5 HL hlen HK HSt
            go_wp2_with (fail)
            go_roundw
            case rel => exact ⟨k + 1, by omega, by go_num, HB6.out, HR6.out, HK6.out, HL6.out⟩
            case measure => simp [intOf]; omega
          · rw [hd, if_pos rfl] at HSt
            rw [hd] at kH1
            have hz : w.heap.size ≤ w1.heap.size := HB1.out.size
            have HV : Hid (E = 103) := HK.out.trans HSt.out
            have HT1 : Hid (T = []) := HT0.out (by rw [HV.out]; decide)
            clear hd HK HSt HBs HL hlen HR1
            go_upto_region 10 with (fail)
            have kc0 : ∀ y : Kin w1, y.val.cell? ⟨wr.heap.size, 0, none⟩ = some (.int .i64 p.i) := fun y => cell_on1 y.is (blk_cell HG1.out rfl)
            have kne : Nonempty (Kin w1) := ⟨⟨_, Below.refl _ _⟩⟩
            refine wp_region_kin w1 (Below.refl _ _) (by kernel_rfl) (by kernel_rfl) ?_
            repeat (go_big_quiet_step ((go_at_call 22; exact kin_call (kH1 _))))
            refine wpQuiet_nil ?_
            rintro wq ⟨⟨xq, hxq⟩, hyq⟩
            have hq : Below w1.heap.size w1 wq := by rw [hyq]; exact hxq
            clear hyq hxq xq kne kc0
            have HB2 : Hid (Below w.heap.size w wq) := HB1.out.trans (hq.mono hz)
            clear hq HB1 HG1 HS1 kH1 HP HA HBd HAt HSrc HT HT0 HE
            go_wp2_with (fail)
            go_ret2
            exact ⟨by rw [HV.out, HT1.out]; rfl, HB2.out⟩
        · rw [if_neg he] at Hst
          have ht : rtx p = [] := if_neg he
          rw [ht] at kP
          have HV : Hid (E = (errs p).1) := by show _ = _; rw [HK.out]; exact Hst
          have HT1 : Hid (T = []) := HT0.out (by rw [HV.out]; exact he)
          have hne : ((errs p).1 == 0) = false := by simpa using he
          clear Hst ht he HK HT HT0 HE HL Hbs HSr
          generalize (errs p).1 = V at *
          go_wp2_with (fail)
          refine (kP _ ((HP.out.on HB.out).alloc _) (blk_alloc (blk_on HA.out HB.out) _)).mono ?_
          rintro e w1 ⟨rfl, hb1⟩
          have HB1 : Hid (Below w.heap.size w w1) := (HB.out.alloc HB.out.size _).trans (hb1.mono (by have := HB.out.size; simp; omega))
          clear x0 x1 x2 x3 x4 x5 x6 x7 x8 x9 x10 x11 hb1 kP HR
          go_wp2_with (fail)
          go_ret2
          exact ⟨by rw [HV.out, HT1.out]; rfl, HB1.out⟩
      · obtain rfl : k = n := by omega
        have hE0 : E = 0 := by rw [HK.out, Hn.out]; exact prE_end
        have HT1 : Hid (T = rulesB ((l.take k).map rpOf)) := by show _ = _; rw [HT.out hE0, Hn.out]
        rw [← HT1.out] at HR
        subst hE0
        have hcv := HR.out.str
        clear HT1 HL HK HT HT0 HAt HBd HE HA HP
        go_wp2_with (fail)
        go_ret2
        exact ⟨rfl, HB.out⟩
end Go.Proofs.YtehedlgdencboabGreatDoor
