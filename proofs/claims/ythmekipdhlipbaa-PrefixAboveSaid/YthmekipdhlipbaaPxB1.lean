/-
  A round of the first loop of PrefixAbove.
-/
import Derived.Test.YthmekipdhlipbaaPxAb
import Derived.Test.YthmekipdhlipbaaPxG11
namespace Go.Proofs.Ythmekipdhlipbaa
open Go.RowKit Go.Shelf
set_option linter.unusedVariables false
set_option linter.unusedSimpArgs false
attribute [local go_sem] Oper.semAt_some

set_option maxRecDepth 100000 in
set_option maxHeartbeats 2000000 in
theorem body1 (l : Nat) (Q : Exit → Act → World → Prop) (t0 t1 t2 t6 t9 t10 t11 t12 t13 t14 t15 t16 t17 t18 t19 t20 t21 t22 t23 t24 t25 t26 t27 t28 t29 t30 t31 t32 t33 t34 t35 t36 t37 t38 t39 t40 t41 t42 t43 t44 t45 t46 t47 t48 t49 t50 t51 t52 t53 t54 t55 t56 t57 t58 t59 t60 t61 t62 t63 t64 t65 t66 t67 t68 t69 t70 t71 t72 t73 t74 t75 t76 t77 t78 t79 t80 t81 t82 t83 t84 t85 t86 t87 t88 t89 t90 t91 t92 t93 t94 t95 t96 t97 t98 : Value) (b c a : Nat) (n : Int) (vad : Option Addr) (cap E : Nat) (L : List (Nat × Nat)) (k pa pn Bx : Nat) (W : World)
    (hI : Inv b c a n vad cap E L k W) (hk : k < L.length) (hL : L.length ≤ 33) (hE : E ≤ 33) (hbc : b + 1 + 1 < c)
    (cx0 : W.cell? ⟨Bx, 0, none⟩ = some (.int .u32 (pa : Int))) (cx1 : W.cell? ⟨Bx, 1, none⟩ = some (.int .i64 (pn : Int)))
    (hret : ¬ (L[k]) = (pa, pn) → ∀ a', Q .ret a' ((W.setCell ⟨b + 1 + 1, 0, none⟩ (.bool false)).drew))
    (hexit : (L[k]) = (pa, pn) → k + 1 = E → ∀ a', Q (.exit 0) a' ((W.setCell ⟨c + 1 + 1 + 1, 0, none⟩ (.int .i64 ((k : Int) + 1))).drew))
    (hok : (L[k]) = (pa, pn) → ¬ k + 1 = E → ∀ a', Q .normal a' ((W.setCell ⟨c + 1 + 1 + 1, 0, none⟩ (.int .i64 ((k : Int) + 1))).drew)) :
    Code.wpIn (Fence.wide.inRound l) 7 Try.prog (Code.block 1 (((Code.region 11 #[{ dst := some 30, op := Op.load 3 (Operand.tmp 7), type := 3, pos := "law.go:92", after := #[], guard := none }, { dst := some 31, op := Op.load 25 (Operand.tmp 5), type := 25, pos := "law.go:92", after := #[], guard := none }, { dst := some 32, op := Op.call { callee := Callee.builtin Builtin.len, args := #[Operand.tmp 31], argTypes := #[25] }, type := 3, pos := "law.go:92", after := #[{ on := 1, ground := Ground.data }], guard := none }, { dst := some 33, op := Op.binOp BinOp.geq 3 (Operand.tmp 30) (Operand.tmp 32) 3, type := 4, pos := "law.go:92", after := #[{ on := 0, ground := Ground.data }, { on := 2, ground := Ground.data }], guard := none }, { dst := some 34, op := Op.move (Operand.tmp 33), type := 4, pos := "law.go:92", after := #[{ on := 3, ground := Ground.data }], guard := none }, { dst := some 35, op := Op.load 24 (Operand.tmp 8), type := 24, pos := "law.go:92", after := #[{ on := 4, ground := Ground.guard }], guard := some (4, false) }, { dst := some 36, op := Op.load 25 (Operand.tmp 5), type := 25, pos := "law.go:92", after := #[{ on := 4, ground := Ground.guard }], guard := some (4, false) }, { dst := some 37, op := Op.load 3 (Operand.tmp 7), type := 3, pos := "law.go:92", after := #[{ on := 4, ground := Ground.guard }], guard := some (4, false) }, { dst := some 38, op := Op.indexAddr 25 (Operand.tmp 36) (Operand.tmp 37), type := 0, pos := "law.go:92", after := #[{ on := 6, ground := Ground.data }, { on := 7, ground := Ground.data }, { on := 4, ground := Ground.guard }], guard := some (4, false) }, { dst := some 39, op := Op.load 24 (Operand.tmp 38), type := 24, pos := "law.go:92", after := #[{ on := 8, ground := Ground.data }, { on := 4, ground := Ground.guard }], guard := some (4, false) }, { dst := some 40, op := Op.binOp BinOp.neq 24 (Operand.tmp 35) (Operand.tmp 39) 24, type := 4, pos := "law.go:92", after := #[{ on := 5, ground := Ground.data }, { on := 9, ground := Ground.data }, { on := 4, ground := Ground.guard }], guard := some (4, false) }, { dst := some 41, op := Op.pick (Operand.tmp 34) (Operand.const (Value.bool true)) (Operand.tmp 40), type := 4, pos := "law.go:92", after := #[{ on := 4, ground := Ground.data }, { on := 10, ground := Ground.data }], guard := none }] true).seq (Code.cond (Operand.tmp 41) ((Code.region 12 #[{ dst := none, op := Op.store 4 (Operand.tmp 4) (Operand.const (Value.bool false)), type := 0, pos := "law.go:93", after := #[], guard := none }] false).seq Code.ret) Code.skip)).seq ((Code.region 13 #[{ dst := some 42, op := Op.load 3 (Operand.tmp 7), type := 3, pos := "law.go:95", after := #[], guard := none }, { dst := some 43, op := Op.binOp BinOp.add 3 (Operand.tmp 42) (Operand.const (Value.int IntKind.i64 1)) 3, type := 3, pos := "law.go:95", after := #[{ on := 0, ground := Ground.data }], guard := none }, { dst := none, op := Op.store 3 (Operand.tmp 7) (Operand.tmp 43), type := 0, pos := "law.go:95", after := #[{ on := 1, ground := Ground.data }, { on := 0, ground := Ground.phase }, { on := 1, ground := Ground.phase }], guard := none }] false).seq ((Code.region 14 #[{ dst := some 44, op := Op.load 3 (Operand.tmp 7), type := 3, pos := "law.go:96", after := #[], guard := none }, { dst := some 45, op := Op.load 3 (Operand.tmp 3), type := 3, pos := "law.go:96", after := #[], guard := none }, { dst := some 46, op := Op.binOp BinOp.eql 3 (Operand.tmp 44) (Operand.tmp 45) 3, type := 4, pos := "law.go:96", after := #[{ on := 0, ground := Ground.data }, { on := 1, ground := Ground.data }], guard := none }] false).seq (Code.cond (Operand.tmp 46) (Code.exit 0) Code.skip))))) Q { tmps := #[t0, t1, t2, .pointer (some ⟨b + 1, 0, none⟩), .pointer (some ⟨b + 1 + 1, 0, none⟩), .pointer (some ⟨c, 0, none⟩), t6, .pointer (some ⟨c + 1 + 1 + 1, 0, none⟩), .pointer (some ⟨Bx, 0, none⟩), t9, t10, t11, t12, t13, t14, t15, t16, t17, t18, t19, t20, t21, t22, t23, t24, t25, t26, t27, t28, t29, t30, t31, t32, t33, t34, t35, t36, t37, t38, t39, t40, t41, t42, t43, t44, t45, t46, t47, t48, t49, t50, t51, t52, t53, t54, t55, t56, t57, t58, t59, t60, t61, t62, t63, t64, t65, t66, t67, t68, t69, t70, t71, t72, t73, t74, t75, t76, t77, t78, t79, t80, t81, t82, t83, t84, t85, t86, t87, t88, t89, t90, t91, t92, t93, t94, t95, t96, t97, t98], defers := [] } W := by
  obtain ⟨g, rfl, hg1, hg2, hrow⟩ := hI.row (by omega)
  obtain ⟨q0, q1⟩ := hrow k hk
  obtain ⟨qa, hqa⟩ : ∃ z, z = (L[k]).1 := ⟨_, rfl⟩
  obtain ⟨qn, hqn⟩ : ∃ z, z = (L[k]).2 := ⟨_, rfl⟩
  rw [← hqa] at q0
  rw [← hqn] at q1
  have hLk : L[k] = (qa, qn) := Prod.ext hqa.symm hqn.symm
  rw [hLk] at hret hexit hok
  have c7 := hI.cnt
  have f7 := hI.cntF
  have c5 := hI.want
  have c3 := hI.early
  have c4 := hI.ans
  have f4 := hI.ansF
  have hk0 : (0 : Int) ≤ (k : Int) := by omega
  have hkb : (k : Int) ≤ 33 := by omega
  have n37 : ¬ b + 1 = c + 1 + 1 + 1 := by omega
  clear hI hrow hqa hqn hLk
  generalize L.length = N at c5 hk hL
  by_cases e1 : qa = pa
  · by_cases e2 : qn = pn
    · subst e1 e2
      by_cases hkE : k + 1 = E
      · have hx := hexit rfl hkE
        have hkE' : ((k : Int) + 1 == (E : Int)) = true := by simp; omega
        have hkE2 : (k : Int) + 1 = (E : Int) := by omega
        clear hexit hok hret
        gi_wp2
        refine reg11_ok l 7 _ _ _ _ _ _ _ _ _ _ _ _ _ _ _ _ _ _ _ _ _ _ _ _ _ _ _ _ _ _ _ _ _ _ _ _ _ _ _ _ _ _ _ _ _ _ _ _ _ _ _ _ _ _ _ _ _ _ _ _ _ _ _ _ _ _ _ _ _ _ _ _ _ _ _ _ _ _ _ _ _ _ _ _ _ _ _ _ _ _ _ _ _ _ _ _ _ c (c + 1 + 1 + 1) Bx g cap N k qa qn qa qn W hL hk c7 c5 q0 q1 cx0 cx1 rfl rfl ?_
        intro u30 u31 u32 u33 u34 u35 u36 u37 u38 u39 u40
        gi_wp2
        first | exact hx _ | (rw [← hkE2]; exact hx _)
      · have hx := hok rfl hkE
        have hkE' : ((k : Int) + 1 == (E : Int)) = false := by simp; omega
        have hkE2 : ¬ (k : Int) + 1 = (E : Int) := by omega
        clear hexit hok hret
        gi_wp2
        refine reg11_ok l 7 _ _ _ _ _ _ _ _ _ _ _ _ _ _ _ _ _ _ _ _ _ _ _ _ _ _ _ _ _ _ _ _ _ _ _ _ _ _ _ _ _ _ _ _ _ _ _ _ _ _ _ _ _ _ _ _ _ _ _ _ _ _ _ _ _ _ _ _ _ _ _ _ _ _ _ _ _ _ _ _ _ _ _ _ _ _ _ _ _ _ _ _ _ _ _ _ _ c (c + 1 + 1 + 1) Bx g cap N k qa qn qa qn W hL hk c7 c5 q0 q1 cx0 cx1 rfl rfl ?_
        intro u30 u31 u32 u33 u34 u35 u36 u37 u38 u39 u40
        gi_wp2
        first | exact hx _ | (rw [← hkE2]; exact hx _)
    · subst e1
      have hx := hret (fun h => e2 (by cases h; rfl))
      clear hexit hok hret
      gi_wp2
      refine reg11_nn l 7 _ _ _ _ _ _ _ _ _ _ _ _ _ _ _ _ _ _ _ _ _ _ _ _ _ _ _ _ _ _ _ _ _ _ _ _ _ _ _ _ _ _ _ _ _ _ _ _ _ _ _ _ _ _ _ _ _ _ _ _ _ _ _ _ _ _ _ _ _ _ _ _ _ _ _ _ _ _ _ _ _ _ _ _ _ _ _ _ _ _ _ _ _ _ _ _ _ c (c + 1 + 1 + 1) Bx g cap N k qa qn qa pn W hL hk c7 c5 q0 q1 cx0 cx1 rfl (fun h => e2 h.symm) ?_
      intro u30 u31 u32 u33 u34 u35 u36 u37 u38 u39 u40
      gi_wp2
      exact hx _
  · have hx := hret (fun h => e1 (by cases h; rfl))
    clear hexit hok hret
    gi_wp2
    refine reg11_na l 7 _ _ _ _ _ _ _ _ _ _ _ _ _ _ _ _ _ _ _ _ _ _ _ _ _ _ _ _ _ _ _ _ _ _ _ _ _ _ _ _ _ _ _ _ _ _ _ _ _ _ _ _ _ _ _ _ _ _ _ _ _ _ _ _ _ _ _ _ _ _ _ _ _ _ _ _ _ _ _ _ _ _ _ _ _ _ _ _ _ _ _ _ _ _ _ _ _ c (c + 1 + 1 + 1) Bx g cap N k qa qn pa pn W hL hk c7 c5 q0 q1 cx0 cx1 (fun h => e1 h.symm) ?_
    intro u30 u31 u32 u33 u34 u35 u36 u37 u38 u39 u40
    gi_wp2
    exact hx _
end Go.Proofs.Ythmekipdhlipbaa
