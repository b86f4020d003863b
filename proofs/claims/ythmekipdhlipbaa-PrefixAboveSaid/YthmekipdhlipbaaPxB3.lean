/-
  A round of the third loop of PrefixAbove.
-/
import Derived.Test.YthmekipdhlipbaaPxAb
import Derived.Test.YthmekipdhlipbaaPxG27
namespace Go.Proofs.Ythmekipdhlipbaa
open Go.RowKit Go.Shelf
set_option linter.unusedVariables false
set_option linter.unusedSimpArgs false
attribute [local go_sem] Oper.semAt_some

set_option maxRecDepth 100000 in
set_option maxHeartbeats 2000000 in
theorem body3 (l : Nat) (Q : Exit → Act → World → Prop) (t0 t1 t2 t3 t6 t7 t8 t9 t12 t13 t14 t15 t16 t17 t18 t19 t20 t21 t22 t23 t24 t25 t26 t27 t28 t29 t30 t31 t32 t33 t34 t35 t36 t37 t38 t39 t40 t41 t42 t43 t44 t45 t46 t47 t48 t49 t50 t51 t52 t53 t54 t55 t56 t57 t58 t59 t60 t61 t62 t63 t64 t65 t66 t67 t68 t69 t70 t71 t72 t73 t74 t75 t76 t77 t78 t79 t80 t81 t82 t83 t84 t85 t86 t87 t88 t89 t90 t91 t92 t93 t94 t95 t96 t97 t98 : Value) (b c a : Nat) (n : Int) (vad : Option Addr) (cap : Nat) (E : Int) (L : List (Nat × Nat)) (k0 : Int) (k pa pn Bx Bj : Nat) (W : World)
    (hI : Inv b c a n vad cap E L k0 W) (hk : k < L.length) (hL : L.length ≤ 33) (cj : W.cell? ⟨Bj, 0, none⟩ = some (.int .i64 (k : Int))) (fj : W.frozen? ⟨Bj, 0, none⟩ = false)
    (cx0 : W.cell? ⟨Bx, 0, none⟩ = some (.int .u32 (pa : Int))) (cx1 : W.cell? ⟨Bx, 1, none⟩ = some (.int .i64 (pn : Int)))
    (hret : ¬ (L[k]) = (pa, pn) → ∀ a', Q .ret a' ((W.setCell ⟨b + 1 + 1, 0, none⟩ (.bool false)).drew))
    (hok : (L[k]) = (pa, pn) → ∀ a', Q .normal a' ((W.setCell ⟨Bj, 0, none⟩ (.int .i64 ((k : Int) + 1))).drew)) :
    Code.wpIn (Fence.wide.inRound l) 5 Try.prog (Code.block 5 (((Code.region 27 #[{ dst := some 74, op := Op.load 3 (Operand.tmp 10), type := 3, pos := "law.go:114", after := #[], guard := none }, { dst := some 75, op := Op.load 25 (Operand.tmp 5), type := 25, pos := "law.go:114", after := #[], guard := none }, { dst := some 76, op := Op.call { callee := Callee.builtin Builtin.len, args := #[Operand.tmp 75], argTypes := #[25] }, type := 3, pos := "law.go:114", after := #[{ on := 1, ground := Ground.data }], guard := none }, { dst := some 77, op := Op.binOp BinOp.geq 3 (Operand.tmp 74) (Operand.tmp 76) 3, type := 4, pos := "law.go:114", after := #[{ on := 0, ground := Ground.data }, { on := 2, ground := Ground.data }], guard := none }, { dst := some 78, op := Op.move (Operand.tmp 77), type := 4, pos := "law.go:114", after := #[{ on := 3, ground := Ground.data }], guard := none }, { dst := some 79, op := Op.load 24 (Operand.tmp 11), type := 24, pos := "law.go:114", after := #[{ on := 4, ground := Ground.guard }], guard := some (4, false) }, { dst := some 80, op := Op.load 25 (Operand.tmp 5), type := 25, pos := "law.go:114", after := #[{ on := 4, ground := Ground.guard }], guard := some (4, false) }, { dst := some 81, op := Op.load 3 (Operand.tmp 10), type := 3, pos := "law.go:114", after := #[{ on := 4, ground := Ground.guard }], guard := some (4, false) }, { dst := some 82, op := Op.indexAddr 25 (Operand.tmp 80) (Operand.tmp 81), type := 0, pos := "law.go:114", after := #[{ on := 6, ground := Ground.data }, { on := 7, ground := Ground.data }, { on := 4, ground := Ground.guard }], guard := some (4, false) }, { dst := some 83, op := Op.load 24 (Operand.tmp 82), type := 24, pos := "law.go:114", after := #[{ on := 8, ground := Ground.data }, { on := 4, ground := Ground.guard }], guard := some (4, false) }, { dst := some 84, op := Op.binOp BinOp.neq 24 (Operand.tmp 79) (Operand.tmp 83) 24, type := 4, pos := "law.go:114", after := #[{ on := 5, ground := Ground.data }, { on := 9, ground := Ground.data }, { on := 4, ground := Ground.guard }], guard := some (4, false) }, { dst := some 85, op := Op.pick (Operand.tmp 78) (Operand.const (Value.bool true)) (Operand.tmp 84), type := 4, pos := "law.go:114", after := #[{ on := 4, ground := Ground.data }, { on := 10, ground := Ground.data }], guard := none }] true).seq (Code.cond (Operand.tmp 85) ((Code.region 28 #[{ dst := none, op := Op.store 4 (Operand.tmp 4) (Operand.const (Value.bool false)), type := 0, pos := "law.go:115", after := #[], guard := none }] false).seq Code.ret) Code.skip)).seq (Code.region 29 #[{ dst := some 86, op := Op.load 3 (Operand.tmp 10), type := 3, pos := "law.go:117", after := #[], guard := none }, { dst := some 87, op := Op.binOp BinOp.add 3 (Operand.tmp 86) (Operand.const (Value.int IntKind.i64 1)) 3, type := 3, pos := "law.go:117", after := #[{ on := 0, ground := Ground.data }], guard := none }, { dst := none, op := Op.store 3 (Operand.tmp 10) (Operand.tmp 87), type := 0, pos := "law.go:117", after := #[{ on := 1, ground := Ground.data }, { on := 0, ground := Ground.phase }, { on := 1, ground := Ground.phase }], guard := none }] false))) Q { tmps := #[t0, t1, t2, t3, .pointer (some ⟨b + 1 + 1, 0, none⟩), .pointer (some ⟨c, 0, none⟩), t6, t7, t8, t9, .pointer (some ⟨Bj, 0, none⟩), .pointer (some ⟨Bx, 0, none⟩), t12, t13, t14, t15, t16, t17, t18, t19, t20, t21, t22, t23, t24, t25, t26, t27, t28, t29, t30, t31, t32, t33, t34, t35, t36, t37, t38, t39, t40, t41, t42, t43, t44, t45, t46, t47, t48, t49, t50, t51, t52, t53, t54, t55, t56, t57, t58, t59, t60, t61, t62, t63, t64, t65, t66, t67, t68, t69, t70, t71, t72, t73, t74, t75, t76, t77, t78, t79, t80, t81, t82, t83, t84, t85, t86, t87, t88, t89, t90, t91, t92, t93, t94, t95, t96, t97, t98], defers := [] } W := by
  obtain ⟨g, rfl, hg1, hg2, hrow⟩ := hI.row (by omega)
  obtain ⟨q0, q1⟩ := hrow k hk
  obtain ⟨qa, hqa⟩ : ∃ z, z = (L[k]).1 := ⟨_, rfl⟩
  obtain ⟨qn, hqn⟩ : ∃ z, z = (L[k]).2 := ⟨_, rfl⟩
  rw [← hqa] at q0
  rw [← hqn] at q1
  have hLk : L[k] = (qa, qn) := Prod.ext hqa.symm hqn.symm
  rw [hLk] at hret hok
  have c5 := hI.want
  have c4 := hI.ans
  have f4 := hI.ansF
  have hk0 : (0 : Int) ≤ (k : Int) := by omega
  have hkb : (k : Int) ≤ 33 := by omega
  clear hI hrow hqa hqn hLk
  generalize L.length = N at c5 hk hL
  by_cases e1 : qa = pa
  · by_cases e2 : qn = pn
    · subst e1 e2
      have hx := hok rfl
      clear hok hret
      gi_wp2
      refine reg27_ok l 5 _ _ _ _ _ _ _ _ _ _ _ _ _ _ _ _ _ _ _ _ _ _ _ _ _ _ _ _ _ _ _ _ _ _ _ _ _ _ _ _ _ _ _ _ _ _ _ _ _ _ _ _ _ _ _ _ _ _ _ _ _ _ _ _ _ _ _ _ _ _ _ _ _ _ _ _ _ _ _ _ _ _ _ _ _ _ _ _ _ _ _ _ _ _ _ _ _ c Bj Bx g cap N k qa qn qa qn W hL hk cj c5 q0 q1 cx0 cx1 rfl rfl ?_
      intro u74 u75 u76 u77 u78 u79 u80 u81 u82 u83 u84
      gi_wp2
      exact hx _
    · subst e1
      have hx := hret (fun h => e2 (by cases h; rfl))
      clear hok hret
      gi_wp2
      refine reg27_nn l 5 _ _ _ _ _ _ _ _ _ _ _ _ _ _ _ _ _ _ _ _ _ _ _ _ _ _ _ _ _ _ _ _ _ _ _ _ _ _ _ _ _ _ _ _ _ _ _ _ _ _ _ _ _ _ _ _ _ _ _ _ _ _ _ _ _ _ _ _ _ _ _ _ _ _ _ _ _ _ _ _ _ _ _ _ _ _ _ _ _ _ _ _ _ _ _ _ _ c Bj Bx g cap N k qa qn qa pn W hL hk cj c5 q0 q1 cx0 cx1 rfl (fun h => e2 h.symm) ?_
      intro u74 u75 u76 u77 u78 u79 u80 u81 u82 u83 u84
      gi_wp2
      exact hx _
  · have hx := hret (fun h => e1 (by cases h; rfl))
    clear hok hret
    gi_wp2
    refine reg27_na l 5 _ _ _ _ _ _ _ _ _ _ _ _ _ _ _ _ _ _ _ _ _ _ _ _ _ _ _ _ _ _ _ _ _ _ _ _ _ _ _ _ _ _ _ _ _ _ _ _ _ _ _ _ _ _ _ _ _ _ _ _ _ _ _ _ _ _ _ _ _ _ _ _ _ _ _ _ _ _ _ _ _ _ _ _ _ _ _ _ _ _ _ _ _ _ _ _ _ c Bj Bx g cap N k qa qn pa pn W hL hk cj c5 q0 q1 cx0 cx1 (fun h => e1 h.symm) ?_
    intro u74 u75 u76 u77 u78 u79 u80 u81 u82 u83 u84
    gi_wp2
    exact hx _
end Go.Proofs.Ythmekipdhlipbaa
