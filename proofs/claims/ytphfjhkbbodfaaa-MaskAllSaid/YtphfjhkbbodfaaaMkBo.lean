/-
  The rounds of MaskAll's loops.
-/
import Derived.Test.YtphfjhkbbodfaaaMkAb
import Derived.Laws.EntriesVeiled
namespace Go.Proofs.Ytphfjhkbbodfaaa
open Go.RowKit Go.Shelf
set_option linter.unusedVariables false
set_option linter.unusedSimpArgs false
attribute [local go_sem] Oper.semAt_some

set_option maxRecDepth 100000 in
set_option maxHeartbeats 2000000 in
theorem body1 (l : Nat) (Q : Exit → Act → World → Prop) (t0 t1 t2 t6 t9 t10 t11 t12 t13 t14 t15 t16 t17 t18 t19 t20 t21 t22 t23 t24 t25 t26 t27 t28 t29 t30 t31 t32 t33 t34 t35 t36 t37 t38 t39 t40 t41 t42 t43 t44 t45 t46 t47 t48 t49 t50 t51 t52 t53 t54 t55 t56 t57 t58 t59 t60 t61 t62 t63 t64 t65 t66 t67 t68 t69 t70 t71 t72 t73 t74 t75 t76 t77 t78 t79 t80 t81 t82 t83 t84 t85 t86 t87 t88 t89 t90 t91 t92 t93 t94 t95 t96 t97 t98 : Value) (b c a n : Nat) (vad : Option Addr) (cap E : Nat) (L : List Nat) (k px : Nat) (W : World)
    (hI : Inv b c a n vad cap E L k W) (hk : k < L.length) (hL : L.length ≤ 256) (hE : E ≤ 256) (hbc : b + 1 + 1 < c)
    (hret : ¬ L[k] = px → ∀ a', Q .ret a' (W.setCell ⟨b + 1 + 1, 0, none⟩ (.bool false)))
    (hexit : L[k] = px → k + 1 = E → ∀ a', Q (.exit 0) a' (W.setCell ⟨c + 1 + 1 + 1, 0, none⟩ (.int .i64 ((k : Int) + 1))))
    (hok : L[k] = px → ¬ k + 1 = E → ∀ a', Q .normal a' (W.setCell ⟨c + 1 + 1 + 1, 0, none⟩ (.int .i64 ((k : Int) + 1)))) :
    Code.wpIn (Fence.wide.inRound l) 7 Try.prog (Code.block 1 (((Code.region 11 #[{ dst := some 30, op := Op.load 3 (Operand.tmp 7), type := 3, pos := "law.go:63", after := #[], guard := none }, { dst := some 31, op := Op.load 29 (Operand.tmp 5), type := 29, pos := "law.go:63", after := #[], guard := none }, { dst := some 32, op := Op.call { callee := Callee.builtin Builtin.len, args := #[Operand.tmp 31], argTypes := #[29] }, type := 3, pos := "law.go:63", after := #[{ on := 1, ground := Ground.data }], guard := none }, { dst := some 33, op := Op.binOp BinOp.geq 3 (Operand.tmp 30) (Operand.tmp 32) 3, type := 4, pos := "law.go:63", after := #[{ on := 0, ground := Ground.data }, { on := 2, ground := Ground.data }], guard := none }, { dst := some 34, op := Op.move (Operand.tmp 33), type := 4, pos := "law.go:63", after := #[{ on := 3, ground := Ground.data }], guard := none }, { dst := some 35, op := Op.move (Operand.tmp 8), type := 5, pos := "law.go:63", after := #[{ on := 4, ground := Ground.guard }], guard := some (4, false) }, { dst := some 36, op := Op.load 29 (Operand.tmp 5), type := 29, pos := "law.go:63", after := #[{ on := 4, ground := Ground.guard }], guard := some (4, false) }, { dst := some 37, op := Op.load 3 (Operand.tmp 7), type := 3, pos := "law.go:63", after := #[{ on := 4, ground := Ground.guard }], guard := some (4, false) }, { dst := some 38, op := Op.indexAddr 29 (Operand.tmp 36) (Operand.tmp 37), type := 0, pos := "law.go:63", after := #[{ on := 6, ground := Ground.data }, { on := 7, ground := Ground.data }, { on := 4, ground := Ground.guard }], guard := some (4, false) }, { dst := some 39, op := Op.load 5 (Operand.tmp 38), type := 5, pos := "law.go:63", after := #[{ on := 8, ground := Ground.data }, { on := 4, ground := Ground.guard }], guard := some (4, false) }, { dst := some 40, op := Op.binOp BinOp.neq 5 (Operand.tmp 35) (Operand.tmp 39) 5, type := 4, pos := "law.go:63", after := #[{ on := 5, ground := Ground.data }, { on := 9, ground := Ground.data }, { on := 4, ground := Ground.guard }], guard := some (4, false) }, { dst := some 41, op := Op.pick (Operand.tmp 34) (Operand.const (Value.bool true)) (Operand.tmp 40), type := 4, pos := "law.go:63", after := #[{ on := 4, ground := Ground.data }, { on := 10, ground := Ground.data }], guard := none }] false).seq (Code.cond (Operand.tmp 41) ((Code.region 12 #[{ dst := none, op := Op.store 4 (Operand.tmp 4) (Operand.const (Value.bool false)), type := 0, pos := "law.go:64", after := #[], guard := none }] false).seq Code.ret) Code.skip)).seq ((Code.region 13 #[{ dst := some 42, op := Op.load 3 (Operand.tmp 7), type := 3, pos := "law.go:66", after := #[], guard := none }, { dst := some 43, op := Op.binOp BinOp.add 3 (Operand.tmp 42) (Operand.const (Value.int IntKind.i64 1)) 3, type := 3, pos := "law.go:66", after := #[{ on := 0, ground := Ground.data }], guard := none }, { dst := none, op := Op.store 3 (Operand.tmp 7) (Operand.tmp 43), type := 0, pos := "law.go:66", after := #[{ on := 1, ground := Ground.data }, { on := 0, ground := Ground.phase }, { on := 1, ground := Ground.phase }], guard := none }] false).seq ((Code.region 14 #[{ dst := some 44, op := Op.load 3 (Operand.tmp 7), type := 3, pos := "law.go:67", after := #[], guard := none }, { dst := some 45, op := Op.load 3 (Operand.tmp 3), type := 3, pos := "law.go:67", after := #[], guard := none }, { dst := some 46, op := Op.binOp BinOp.eql 3 (Operand.tmp 44) (Operand.tmp 45) 3, type := 4, pos := "law.go:67", after := #[{ on := 0, ground := Ground.data }, { on := 1, ground := Ground.data }], guard := none }] false).seq (Code.cond (Operand.tmp 46) (Code.exit 0) Code.skip))))) Q { tmps := #[t0, t1, t2, .pointer (some ⟨b + 1, 0, none⟩), .pointer (some ⟨b + 1 + 1, 0, none⟩), .pointer (some ⟨c, 0, none⟩), t6, .pointer (some ⟨c + 1 + 1 + 1, 0, none⟩), .int .u8 (px : Int), t9, t10, t11, t12, t13, t14, t15, t16, t17, t18, t19, t20, t21, t22, t23, t24, t25, t26, t27, t28, t29, t30, t31, t32, t33, t34, t35, t36, t37, t38, t39, t40, t41, t42, t43, t44, t45, t46, t47, t48, t49, t50, t51, t52, t53, t54, t55, t56, t57, t58, t59, t60, t61, t62, t63, t64, t65, t66, t67, t68, t69, t70, t71, t72, t73, t74, t75, t76, t77, t78, t79, t80, t81, t82, t83, t84, t85, t86, t87, t88, t89, t90, t91, t92, t93, t94, t95, t96, t97, t98], defers := [] } W := by
  obtain ⟨g, rfl, hg1, hg2, hrow⟩ := hI.row (by omega)
  have q0 := hrow k hk
  obtain ⟨qa, hqa⟩ : ∃ z, z = L[k] := ⟨_, rfl⟩
  rw [← hqa] at q0 hret hexit hok
  have c7 := hI.cnt
  have f7 := hI.cntF
  have c5 := hI.want
  have c3 := hI.early
  have c4 := hI.ans
  have f4 := hI.ansF
  have hk0 : (0 : Int) ≤ (k : Int) := by omega
  have hkb : (k : Int) ≤ 256 := by omega
  have n37 : ¬ b + 1 = c + 1 + 1 + 1 := by omega
  clear hI hrow hqa
  generalize L.length = N at c5 hk hL
  have hge : ¬ ((N : Int) ≤ (k : Int)) := by omega
  have hged : decide ((N : Int) ≤ (k : Int)) = false := decide_eq_false hge
  have hkN : (k : Int) < (N : Int) := by omega
  by_cases e1 : qa = px
  · subst e1
    by_cases hkE : k + 1 = E
    · have hx := hexit rfl hkE
      have hkE' : ((k : Int) + 1 == (E : Int)) = true := by simp; omega
      have hkE2 : (k : Int) + 1 = (E : Int) := by omega
      clear hexit hok hret
      gi_wp2
      first | done | exact hx _ | (rw [← hkE2]; exact hx _)
    · have hx := hok rfl hkE
      have hkE' : ((k : Int) + 1 == (E : Int)) = false := by simp; omega
      have hkE2 : ¬ (k : Int) + 1 = (E : Int) := by omega
      clear hexit hok hret
      gi_wp2
      first | done | exact hx _
  · have hx := hret e1
    have e2 : ¬ (px : Int) = (qa : Int) := by omega
    have e3 : ((px : Int) != (qa : Int)) = true := by simpa using e2
    clear hexit hok hret
    gi_wp2
    first | done | exact hx _
set_option maxRecDepth 100000 in
set_option maxHeartbeats 2000000 in
theorem body3 (l : Nat) (Q : Exit → Act → World → Prop) (t0 t1 t2 t3 t6 t7 t8 t9 t12 t13 t14 t15 t16 t17 t18 t19 t20 t21 t22 t23 t24 t25 t26 t27 t28 t29 t30 t31 t32 t33 t34 t35 t36 t37 t38 t39 t40 t41 t42 t43 t44 t45 t46 t47 t48 t49 t50 t51 t52 t53 t54 t55 t56 t57 t58 t59 t60 t61 t62 t63 t64 t65 t66 t67 t68 t69 t70 t71 t72 t73 t74 t75 t76 t77 t78 t79 t80 t81 t82 t83 t84 t85 t86 t87 t88 t89 t90 t91 t92 t93 t94 t95 t96 t97 t98 : Value) (b c a n : Nat) (vad : Option Addr) (cap : Nat) (E : Int) (L : List Nat) (k0 : Int) (k px Bj : Nat) (W : World)
    (hI : Inv b c a n vad cap E L k0 W) (hk : k < L.length) (hL : L.length ≤ 256) (cj : W.cell? ⟨Bj, 0, none⟩ = some (.int .i64 (k : Int))) (fj : W.frozen? ⟨Bj, 0, none⟩ = false)
    (hret : ¬ L[k] = px → ∀ a', Q .ret a' (W.setCell ⟨b + 1 + 1, 0, none⟩ (.bool false)))
    (hok : L[k] = px → ∀ a', Q .normal a' (W.setCell ⟨Bj, 0, none⟩ (.int .i64 ((k : Int) + 1)))) :
    Code.wpIn (Fence.wide.inRound l) 5 Try.prog (Code.block 5 (((Code.region 27 #[{ dst := some 74, op := Op.load 3 (Operand.tmp 10), type := 3, pos := "law.go:85", after := #[], guard := none }, { dst := some 75, op := Op.load 29 (Operand.tmp 5), type := 29, pos := "law.go:85", after := #[], guard := none }, { dst := some 76, op := Op.call { callee := Callee.builtin Builtin.len, args := #[Operand.tmp 75], argTypes := #[29] }, type := 3, pos := "law.go:85", after := #[{ on := 1, ground := Ground.data }], guard := none }, { dst := some 77, op := Op.binOp BinOp.geq 3 (Operand.tmp 74) (Operand.tmp 76) 3, type := 4, pos := "law.go:85", after := #[{ on := 0, ground := Ground.data }, { on := 2, ground := Ground.data }], guard := none }, { dst := some 78, op := Op.move (Operand.tmp 77), type := 4, pos := "law.go:85", after := #[{ on := 3, ground := Ground.data }], guard := none }, { dst := some 79, op := Op.move (Operand.tmp 11), type := 5, pos := "law.go:85", after := #[{ on := 4, ground := Ground.guard }], guard := some (4, false) }, { dst := some 80, op := Op.load 29 (Operand.tmp 5), type := 29, pos := "law.go:85", after := #[{ on := 4, ground := Ground.guard }], guard := some (4, false) }, { dst := some 81, op := Op.load 3 (Operand.tmp 10), type := 3, pos := "law.go:85", after := #[{ on := 4, ground := Ground.guard }], guard := some (4, false) }, { dst := some 82, op := Op.indexAddr 29 (Operand.tmp 80) (Operand.tmp 81), type := 0, pos := "law.go:85", after := #[{ on := 6, ground := Ground.data }, { on := 7, ground := Ground.data }, { on := 4, ground := Ground.guard }], guard := some (4, false) }, { dst := some 83, op := Op.load 5 (Operand.tmp 82), type := 5, pos := "law.go:85", after := #[{ on := 8, ground := Ground.data }, { on := 4, ground := Ground.guard }], guard := some (4, false) }, { dst := some 84, op := Op.binOp BinOp.neq 5 (Operand.tmp 79) (Operand.tmp 83) 5, type := 4, pos := "law.go:85", after := #[{ on := 5, ground := Ground.data }, { on := 9, ground := Ground.data }, { on := 4, ground := Ground.guard }], guard := some (4, false) }, { dst := some 85, op := Op.pick (Operand.tmp 78) (Operand.const (Value.bool true)) (Operand.tmp 84), type := 4, pos := "law.go:85", after := #[{ on := 4, ground := Ground.data }, { on := 10, ground := Ground.data }], guard := none }] false).seq (Code.cond (Operand.tmp 85) ((Code.region 28 #[{ dst := none, op := Op.store 4 (Operand.tmp 4) (Operand.const (Value.bool false)), type := 0, pos := "law.go:86", after := #[], guard := none }] false).seq Code.ret) Code.skip)).seq (Code.region 29 #[{ dst := some 86, op := Op.load 3 (Operand.tmp 10), type := 3, pos := "law.go:88", after := #[], guard := none }, { dst := some 87, op := Op.binOp BinOp.add 3 (Operand.tmp 86) (Operand.const (Value.int IntKind.i64 1)) 3, type := 3, pos := "law.go:88", after := #[{ on := 0, ground := Ground.data }], guard := none }, { dst := none, op := Op.store 3 (Operand.tmp 10) (Operand.tmp 87), type := 0, pos := "law.go:88", after := #[{ on := 1, ground := Ground.data }, { on := 0, ground := Ground.phase }, { on := 1, ground := Ground.phase }], guard := none }] false))) Q { tmps := #[t0, t1, t2, t3, .pointer (some ⟨b + 1 + 1, 0, none⟩), .pointer (some ⟨c, 0, none⟩), t6, t7, t8, t9, .pointer (some ⟨Bj, 0, none⟩), .int .u8 (px : Int), t12, t13, t14, t15, t16, t17, t18, t19, t20, t21, t22, t23, t24, t25, t26, t27, t28, t29, t30, t31, t32, t33, t34, t35, t36, t37, t38, t39, t40, t41, t42, t43, t44, t45, t46, t47, t48, t49, t50, t51, t52, t53, t54, t55, t56, t57, t58, t59, t60, t61, t62, t63, t64, t65, t66, t67, t68, t69, t70, t71, t72, t73, t74, t75, t76, t77, t78, t79, t80, t81, t82, t83, t84, t85, t86, t87, t88, t89, t90, t91, t92, t93, t94, t95, t96, t97, t98], defers := [] } W := by
  obtain ⟨g, rfl, hg1, hg2, hrow⟩ := hI.row (by omega)
  have q0 := hrow k hk
  obtain ⟨qa, hqa⟩ : ∃ z, z = L[k] := ⟨_, rfl⟩
  rw [← hqa] at q0 hret hok
  have c5 := hI.want
  have c4 := hI.ans
  have f4 := hI.ansF
  have hk0 : (0 : Int) ≤ (k : Int) := by omega
  have hkb : (k : Int) ≤ 256 := by omega
  clear hI hrow hqa
  generalize L.length = N at c5 hk hL
  have hge : ¬ ((N : Int) ≤ (k : Int)) := by omega
  have hged : decide ((N : Int) ≤ (k : Int)) = false := decide_eq_false hge
  have hkN : (k : Int) < (N : Int) := by omega
  by_cases e1 : qa = px
  · subst e1
    have hx := hok rfl
    clear hok hret
    gi_wp2
    first | done | exact hx _
  · have hx := hret e1
    have e2 : ¬ (px : Int) = (qa : Int) := by omega
    have e3 : ((px : Int) != (qa : Int)) = true := by simpa using e2
    clear hok hret
    gi_wp2
    first | done | exact hx _
set_option maxRecDepth 100000 in
set_option maxHeartbeats 4000000 in
theorem body2 (l B0 : Nat) (r : Loop) (Q : Exit → Act → World → Prop) (t0 t1 t2 t3 t8 t10 t11 t12 t13 t14 t15 t16 t17 t18 t19 t20 t21 t22 t23 t24 t25 t26 t27 t28 t29 t30 t31 t32 t33 t34 t35 t36 t37 t38 t39 t40 t41 t42 t43 t44 t45 t46 t47 t48 t49 t50 t51 t52 t53 t54 t55 t56 t57 t58 t59 t60 t61 t62 t63 t64 t65 t66 t67 t68 t69 t70 t71 t72 t73 t74 t75 t76 t77 t78 t79 t80 t81 t82 t83 t84 t85 t86 t87 t88 t89 t90 t91 t92 t93 t94 t95 t96 t97 t98 : Value) (b c a n : Nat) (vad : Option Addr) (cap : Nat) (E : Int) (D : List Byx) (k px : Nat) (W : World) (ha : a < 256) (hn : n < 256) (hD : D = allX a n 256)
    (hI : Inv b c a n vad cap E (nums D) k W) (hk : k < (nums D).length) (hL : (nums D).length ≤ 256) (hbc : b + 1 + 1 < c) (hB0 : c + 1 + 1 + 1 < B0) (hB1 : B0 ≤ W.heap.size) (hl : B0 ≤ l) (hr : W.heap[l]? = some (.loop r))
    (hret : ¬ (nums D)[k] = px → ∀ a', Q .ret a' (W.setCell ⟨b + 1 + 1, 0, none⟩ (.bool false)))
    (hok : (nums D)[k] = px → ∀ a' W', Inv b c a n vad cap E (nums D) ((k : Int) + 1) W' → Below (c + 1 + 1) W W' → KeepsFrom B0 W W' → Q .normal a' W') :
    Code.wpIn (Fence.wide.inRound l) 7 Try.prog (Code.block 3 (((Code.region 20 #[{ dst := some 56, op := Op.load 3 (Operand.tmp 7), type := 3, pos := "law.go:76", after := #[], guard := none }, { dst := some 57, op := Op.load 29 (Operand.tmp 5), type := 29, pos := "law.go:76", after := #[], guard := none }, { dst := some 58, op := Op.call { callee := Callee.builtin Builtin.len, args := #[Operand.tmp 57], argTypes := #[29] }, type := 3, pos := "law.go:76", after := #[{ on := 1, ground := Ground.data }], guard := none }, { dst := some 59, op := Op.binOp BinOp.geq 3 (Operand.tmp 56) (Operand.tmp 58) 3, type := 4, pos := "law.go:76", after := #[{ on := 0, ground := Ground.data }, { on := 2, ground := Ground.data }], guard := none }, { dst := some 60, op := Op.move (Operand.tmp 59), type := 4, pos := "law.go:76", after := #[{ on := 3, ground := Ground.data }], guard := none }, { dst := some 61, op := Op.move (Operand.tmp 9), type := 5, pos := "law.go:76", after := #[{ on := 4, ground := Ground.guard }], guard := some (4, false) }, { dst := some 62, op := Op.load 29 (Operand.tmp 5), type := 29, pos := "law.go:76", after := #[{ on := 4, ground := Ground.guard }], guard := some (4, false) }, { dst := some 63, op := Op.load 3 (Operand.tmp 7), type := 3, pos := "law.go:76", after := #[{ on := 4, ground := Ground.guard }], guard := some (4, false) }, { dst := some 64, op := Op.indexAddr 29 (Operand.tmp 62) (Operand.tmp 63), type := 0, pos := "law.go:76", after := #[{ on := 6, ground := Ground.data }, { on := 7, ground := Ground.data }, { on := 4, ground := Ground.guard }], guard := some (4, false) }, { dst := some 65, op := Op.load 5 (Operand.tmp 64), type := 5, pos := "law.go:76", after := #[{ on := 8, ground := Ground.data }, { on := 4, ground := Ground.guard }], guard := some (4, false) }, { dst := some 66, op := Op.binOp BinOp.neq 5 (Operand.tmp 61) (Operand.tmp 65) 5, type := 4, pos := "law.go:76", after := #[{ on := 5, ground := Ground.data }, { on := 9, ground := Ground.data }, { on := 4, ground := Ground.guard }], guard := some (4, false) }, { dst := some 67, op := Op.pick (Operand.tmp 60) (Operand.const (Value.bool true)) (Operand.tmp 66), type := 4, pos := "law.go:76", after := #[{ on := 4, ground := Ground.data }, { on := 10, ground := Ground.data }], guard := none }] false).seq (Code.cond (Operand.tmp 67) ((Code.region 21 #[{ dst := none, op := Op.store 4 (Operand.tmp 4) (Operand.const (Value.bool false)), type := 0, pos := "law.go:77", after := #[], guard := none }] false).seq Code.ret) Code.skip)).seq ((Code.region 22 #[{ dst := some 68, op := Op.load 3 (Operand.tmp 7), type := 3, pos := "law.go:79", after := #[], guard := none }, { dst := some 69, op := Op.binOp BinOp.add 3 (Operand.tmp 68) (Operand.const (Value.int IntKind.i64 1)) 3, type := 3, pos := "law.go:79", after := #[{ on := 0, ground := Ground.data }], guard := none }, { dst := none, op := Op.store 3 (Operand.tmp 7) (Operand.tmp 69), type := 0, pos := "law.go:79", after := #[{ on := 1, ground := Ground.data }, { on := 0, ground := Ground.phase }, { on := 1, ground := Ground.phase }], guard := none }] false).seq (((Code.region 23 #[{ dst := some 70, op := Op.load 3 (Operand.tmp 7), type := 3, pos := "law.go:80", after := #[], guard := none }, { dst := some 71, op := Op.binOp BinOp.gtr 3 (Operand.tmp 70) (Operand.const (Value.int IntKind.i64 2)) 3, type := 4, pos := "law.go:80", after := #[{ on := 0, ground := Ground.data }], guard := none }] false).seq (Code.cond (Operand.tmp 71) (Code.exit 3) Code.skip)).seq ((Code.region 24 #[{ dst := some 10, op := Op.alloc 3, type := 0, pos := "law.go:83", after := #[], guard := none }, { dst := none, op := Op.store 3 (Operand.tmp 10) (Operand.const (Value.int IntKind.i64 0)), type := 0, pos := "law.go:83", after := #[{ on := 0, ground := Ground.data }, { on := 0, ground := Ground.phase }], guard := none }] false).seq (((Code.region 25 #[{ dst := some 72, op := Op.load 32 (Operand.tmp 6), type := 32, pos := "law.go:84", after := #[], guard := none }] false).seq (Code.block 4 (Code.rangeFunc (Operand.tmp 72) #[73] (Code.region 26 #[{ dst := some 11, op := Op.assign (Operand.tmp 73), type := 5, pos := "law.go:84", after := #[], guard := none }] false) (Code.block 5 (((Code.region 27 #[{ dst := some 74, op := Op.load 3 (Operand.tmp 10), type := 3, pos := "law.go:85", after := #[], guard := none }, { dst := some 75, op := Op.load 29 (Operand.tmp 5), type := 29, pos := "law.go:85", after := #[], guard := none }, { dst := some 76, op := Op.call { callee := Callee.builtin Builtin.len, args := #[Operand.tmp 75], argTypes := #[29] }, type := 3, pos := "law.go:85", after := #[{ on := 1, ground := Ground.data }], guard := none }, { dst := some 77, op := Op.binOp BinOp.geq 3 (Operand.tmp 74) (Operand.tmp 76) 3, type := 4, pos := "law.go:85", after := #[{ on := 0, ground := Ground.data }, { on := 2, ground := Ground.data }], guard := none }, { dst := some 78, op := Op.move (Operand.tmp 77), type := 4, pos := "law.go:85", after := #[{ on := 3, ground := Ground.data }], guard := none }, { dst := some 79, op := Op.move (Operand.tmp 11), type := 5, pos := "law.go:85", after := #[{ on := 4, ground := Ground.guard }], guard := some (4, false) }, { dst := some 80, op := Op.load 29 (Operand.tmp 5), type := 29, pos := "law.go:85", after := #[{ on := 4, ground := Ground.guard }], guard := some (4, false) }, { dst := some 81, op := Op.load 3 (Operand.tmp 10), type := 3, pos := "law.go:85", after := #[{ on := 4, ground := Ground.guard }], guard := some (4, false) }, { dst := some 82, op := Op.indexAddr 29 (Operand.tmp 80) (Operand.tmp 81), type := 0, pos := "law.go:85", after := #[{ on := 6, ground := Ground.data }, { on := 7, ground := Ground.data }, { on := 4, ground := Ground.guard }], guard := some (4, false) }, { dst := some 83, op := Op.load 5 (Operand.tmp 82), type := 5, pos := "law.go:85", after := #[{ on := 8, ground := Ground.data }, { on := 4, ground := Ground.guard }], guard := some (4, false) }, { dst := some 84, op := Op.binOp BinOp.neq 5 (Operand.tmp 79) (Operand.tmp 83) 5, type := 4, pos := "law.go:85", after := #[{ on := 5, ground := Ground.data }, { on := 9, ground := Ground.data }, { on := 4, ground := Ground.guard }], guard := some (4, false) }, { dst := some 85, op := Op.pick (Operand.tmp 78) (Operand.const (Value.bool true)) (Operand.tmp 84), type := 4, pos := "law.go:85", after := #[{ on := 4, ground := Ground.data }, { on := 10, ground := Ground.data }], guard := none }] false).seq (Code.cond (Operand.tmp 85) ((Code.region 28 #[{ dst := none, op := Op.store 4 (Operand.tmp 4) (Operand.const (Value.bool false)), type := 0, pos := "law.go:86", after := #[], guard := none }] false).seq Code.ret) Code.skip)).seq (Code.region 29 #[{ dst := some 86, op := Op.load 3 (Operand.tmp 10), type := 3, pos := "law.go:88", after := #[], guard := none }, { dst := some 87, op := Op.binOp BinOp.add 3 (Operand.tmp 86) (Operand.const (Value.int IntKind.i64 1)) 3, type := 3, pos := "law.go:88", after := #[{ on := 0, ground := Ground.data }], guard := none }, { dst := none, op := Op.store 3 (Operand.tmp 10) (Operand.tmp 87), type := 0, pos := "law.go:88", after := #[{ on := 1, ground := Ground.data }, { on := 0, ground := Ground.phase }, { on := 1, ground := Ground.phase }], guard := none }] false)))))).seq ((Code.region 30 #[{ dst := some 88, op := Op.load 3 (Operand.tmp 10), type := 3, pos := "law.go:90", after := #[], guard := none }, { dst := some 89, op := Op.load 29 (Operand.tmp 5), type := 29, pos := "law.go:90", after := #[], guard := none }, { dst := some 90, op := Op.call { callee := Callee.builtin Builtin.len, args := #[Operand.tmp 89], argTypes := #[29] }, type := 3, pos := "law.go:90", after := #[{ on := 1, ground := Ground.data }], guard := none }, { dst := some 91, op := Op.binOp BinOp.neq 3 (Operand.tmp 88) (Operand.tmp 90) 3, type := 4, pos := "law.go:90", after := #[{ on := 0, ground := Ground.data }, { on := 2, ground := Ground.data }], guard := none }] false).seq (Code.cond (Operand.tmp 91) ((Code.region 31 #[{ dst := none, op := Op.store 4 (Operand.tmp 4) (Operand.const (Value.bool false)), type := 0, pos := "law.go:91", after := #[], guard := none }] false).seq Code.ret) Code.skip)))))))) Q { tmps := #[t0, t1, t2, t3, .pointer (some ⟨b + 1 + 1, 0, none⟩), .pointer (some ⟨c, 0, none⟩), .pointer (some ⟨c + 1 + 1, 0, none⟩), .pointer (some ⟨c + 1 + 1 + 1, 0, none⟩), t8, .int .u8 (px : Int), t10, t11, t12, t13, t14, t15, t16, t17, t18, t19, t20, t21, t22, t23, t24, t25, t26, t27, t28, t29, t30, t31, t32, t33, t34, t35, t36, t37, t38, t39, t40, t41, t42, t43, t44, t45, t46, t47, t48, t49, t50, t51, t52, t53, t54, t55, t56, t57, t58, t59, t60, t61, t62, t63, t64, t65, t66, t67, t68, t69, t70, t71, t72, t73, t74, t75, t76, t77, t78, t79, t80, t81, t82, t83, t84, t85, t86, t87, t88, t89, t90, t91, t92, t93, t94, t95, t96, t97, t98], defers := [] } W := by
  have hI0 := hI
  obtain ⟨g, rfl, hg1, hg2, hrow⟩ := hI.row (by omega)
  have q0 := hrow k hk
  obtain ⟨qa, hqa⟩ : ∃ z, z = (nums D)[k] := ⟨_, rfl⟩
  rw [← hqa] at q0 hret hok
  have c7 := hI.cnt
  have f7 := hI.cntF
  have c5 := hI.want
  have c4 := hI.ans
  have f4 := hI.ansF
  have c6 := hI.seq
  have hk0 : (0 : Int) ≤ (k : Int) := by omega
  have hkb : (k : Int) ≤ 256 := by omega
  have n67 : ¬ c + 1 + 1 = c + 1 + 1 + 1 := by omega
  have s0 : c < W.heap.size := by omega
  have s1 : c + 1 + 1 < W.heap.size := by omega
  have s2 : c + 1 + 1 + 1 < W.heap.size := by omega
  have s3 : b + 1 + 1 < W.heap.size := by omega
  have n57 : ¬ c = c + 1 + 1 + 1 := by omega
  obtain ⟨N, hN⟩ : ∃ N, N = (nums D).length := ⟨_, rfl⟩
  have HN : Hid (N = (nums D).length) := hN
  rw [← hN] at c5 hk hL
  have HI0 : Hid (Inv b c a n (some ⟨g, 0, none⟩) cap E (nums D) k W) := hI0
  clear hI hI0 hrow hqa hN
  have hge : ¬ ((N : Int) ≤ (k : Int)) := by omega
  have hged : decide ((N : Int) ≤ (k : Int)) = false := decide_eq_false hge
  have hkN : (k : Int) < (N : Int) := by omega
  by_cases e1 : qa = px
  · subst e1
    have hx := hok rfl
    clear hok hret
    have HX : Hid (∀ a' W', Inv b c a n (some ⟨g, 0, none⟩) cap E (nums D) ((k : Int) + 1) W' → Below (c + 1 + 1) W W' → KeepsFrom B0 W W' → Q .normal a' W') := hx
    clear hx
    have I1 : Hid (Inv b c a n (some ⟨g, 0, none⟩) cap E (nums D) ((k : Int) + 1) (W.setCell ⟨c + 1 + 1 + 1, 0, none⟩ (.int .i64 ((k : Int) + 1)))) := HI0.out.set hbc _
    have hbl1 : Hid (Below (c + 1 + 1) W (W.setCell ⟨c + 1 + 1 + 1, 0, none⟩ (.int .i64 ((k : Int) + 1)))) := (Below.refl _ W).setCell (by show c + 1 + 1 ≤ c + 1 + 1 + 1; omega) _
    have hkf1 : Hid (KeepsFrom B0 W (W.setCell ⟨c + 1 + 1 + 1, 0, none⟩ (.int .i64 ((k : Int) + 1)))) := (KeepsOthers.setCell _ _ _).from _
    by_cases hk2 : 2 < k + 1
    · have hk2' : (2 : Int) < (k : Int) + 1 := by omega
      gi_wp2
      exact HX.out _ _ I1.out hbl1.out hkf1.out
    · have hk2' : ¬ (2 : Int) < (k : Int) + 1 := by omega
      gi_wp2
      obtain ⟨W2, hW2⟩ : ∃ W2, (W.setCell ⟨c + 1 + 1 + 1, 0, none⟩ (.int .i64 ((k : Int) + 1))).alloc (.cells #[.int .i64 0] 3) = W2 := ⟨_, rfl⟩
      rw [hW2]
      have hz2 : W2.heap.size = W.heap.size + 1 := by rw [← hW2]; simp [World.setCell]
      have hsz1 : (W.setCell ⟨c + 1 + 1 + 1, 0, none⟩ (.int .i64 ((k : Int) + 1))).heap.size = W.heap.size := by simp [World.setCell]
      have hI2 : Hid (Inv b c a n (some ⟨g, 0, none⟩) cap E (nums D) ((k : Int) + 1) W2) := by
        show Inv _ _ _ _ _ _ _ _ _ _
        rw [← hW2]
        exact (HI0.out.set hbc _).below ((Below.refl _ _).alloc (Nat.le_refl _) _)
      have hj2 : W2.cell? ⟨W.heap.size, 0, none⟩ = some (.int .i64 0) ∧ W2.frozen? ⟨W.heap.size, 0, none⟩ = false := by rw [← hW2]; simp [go_sem]
      have hbl2 : Hid (Below (c + 1 + 1) W W2) := by
        show Below _ _ _
        rw [← hW2]
        exact (((Below.refl _ W).setCell (by show c + 1 + 1 ≤ c + 1 + 1 + 1; omega) _)).alloc (by rw [hsz1]; omega) _
      have hkf2 : Hid (KeepsFrom B0 W W2) := by
        show KeepsFrom _ _ _
        rw [← hW2]
        exact ((KeepsOthers.setCell _ _ _).trans (KeepsOthers.alloc _ _)).from _
      have hr2 : W2.heap[l]? = some (.loop r) := by
        have h1 : l < W.heap.size := (Array.getElem?_eq_some_iff.1 hr).1
        rw [← hW2]
        rw [Below.heap_alloc _ _ _ (by rw [hsz1]; exact h1), Below.heap_setCell _ _ _ _ (by show l ≠ c + 1 + 1 + 1; omega)]
        exact hr
      clear hW2 I1 hbl1 hkf1 c7 f7 c5 c4 f4 c6 q0 hr
      refine range_in l r 73 11 hr2 rfl (n₀ := c + 1 + 1) (by omega) ((all_stops 6 (by decide) (c + 1) (c + 1 + 1) a n ha hn W2 (by omega) (by omega) hI2.out.pre0 hI2.out.pre1).inRound l)
        (fun pre V => Inv b c a n (some ⟨g, 0, none⟩) cap E (nums D) ((k : Int) + 1) V ∧ (V.cell? ⟨W.heap.size, 0, none⟩ = some (.int .i64 (pre.length : Int)) ∧ V.frozen? ⟨W.heap.size, 0, none⟩ = false) ∧ (Below (c + 1 + 1) W V ∧ KeepsFrom B0 W V) ∧ (W2.heap.size ≤ V.heap.size ∧ pre <+: D))
        (fun cc pre V => cc = .ret ∧ ¬ pre <+: D)
        ?hI (fun cc s A B row hs _ _ => hs) ?h0 ?assign ?body ?done ?stop
      case hI => exact OwnFrom.and (Own.from (Inv.own b c a n (some ⟨g, 0, none⟩) cap E (nums D) (fun _ => (k : Int) + 1)) _) (OwnFrom.and (Own.from (fun s A B row hs hg hr => ⟨cell_kept hs.1 hg hr, (frozen_kept hs.1 hg hr).trans hs.2⟩) _) (OwnFrom.and (OwnFrom.and (ownFrom_below (by omega) (by omega)) (ownFrom_keepsFrom (by omega))) (fun s A B row hs hg _ => ⟨Nat.le_trans hs.1 hg.size, hs.2⟩)))
      case h0 => exact ⟨hI2.out, hj2, ⟨hbl2.out, hkf2.out⟩, Nat.le_refl _, List.nil_prefix⟩
      case assign =>
        intro l2 x V K hK
        simp only [List.setIfInBounds_toArray, List.set_cons_succ, List.set_cons_zero] at hK ⊢
        gi_wp2
        exact hK
      case stop =>
        rintro cc pre V hpre ⟨rfl, hbad⟩
        exact absurd (by rw [hD]; exact hpre) hbad
      case body =>
        rintro l2 pre ⟨px2, hpx⟩ V hl2 hr2' ⟨hIV, ⟨cj, fj⟩, ⟨hbV, hkV⟩, hzV, hpre⟩ hN2
        simp only [List.setIfInBounds_toArray, List.set_cons_succ, List.set_cons_zero]
        have hlD : pre.length < D.length := by rw [hD]; exact hN2
        have hklt : pre.length < (nums D).length := by simpa [nums] using hlD
        have hnx := next_any (x := ⟨px2, hpx⟩) hpre hlD
        generalize hQ : ownPostG _ _ _ _ _ _ = Q2
        refine body3 l2 Q2 _ _ _ _ _ _ _ _ _ _ _ _ _ _ _ _ _ _ _ _ _ _ _ _ _ _ _ _ _ _ _ _ _ _ _ _ _ _ _ _ _ _ _ _ _ _ _ _ _ _ _ _ _ _ _ _ _ _ _ _ _ _ _ _ _ _ _ _ _ _ _ _ _ _ _ _ _ _ _ _ _ _ _ _ _ _ _ _ _ _ _ _ _ _ _ b c a n (some ⟨g, 0, none⟩) cap E (nums D) ((k : Int) + 1) pre.length px2 W.heap.size V hIV hklt (by rw [← HN.out]; exact hL) cj fj ?_ ?_
        · intro hne a'
          rw [← hQ]
          exact ⟨(KeepsOthers.setCell _ _ _).from _, rfl, fun h => hne (hnx.1 h).symm⟩
        · intro heq a'
          rw [← hQ]
          refine ⟨(KeepsOthers.setCell _ _ _).from _, (Below.refl _ V).setCell (by show c + 1 + 1 ≤ W.heap.size; omega) _, hIV.other hbc (by omega) _, ⟨?_, ?_⟩, ⟨hbV.setCell (by show c + 1 + 1 ≤ W.heap.size; omega) _, hkV.trans ((KeepsOthers.setCell _ _ _).from _)⟩, ?_, hnx.2 heq.symm⟩
          · rw [List.length_append]
            exact World.cell?_setCell_same' V ⟨W.heap.size, 0, none⟩ _ (by rw [cj]; rfl)
          · rw [World.frozen?_setCell]; exact fj
          · simp [World.setCell]; omega
      case done =>
        rintro xs V hxs ⟨hIV, ⟨cj, fj⟩, ⟨hbV, hkV⟩, hzV, hpre⟩
        have hlx : xs.length = N := by rw [HN.out, hxs, hD]; simp [nums]
        rw [hlx] at cj
        have c5 := hIV.want
        rw [← HN.out] at c5
        have HIV : Hid (Inv b c a n (some ⟨g, 0, none⟩) cap E (nums D) ((k : Int) + 1) V) := hIV
        have HBV : Hid (Below (c + 1 + 1) W V) := hbV
        have HKV : Hid (KeepsFrom B0 W V) := hkV
        clear hIV hbV hkV hpre hlx hxs hI2 hbl2 hkf2 hj2 hr2 HI0 HN
        gi_wp2
        exact HX.out _ _ HIV.out HBV.out HKV.out
  · have hx := hret e1
    have e2 : ¬ (px : Int) = (qa : Int) := by omega
    have e3 : ((px : Int) != (qa : Int)) = true := by simpa using e2
    clear hok hret
    gi_wp2
    first | done | exact hx _
end Go.Proofs.Ytphfjhkbbodfaaa
