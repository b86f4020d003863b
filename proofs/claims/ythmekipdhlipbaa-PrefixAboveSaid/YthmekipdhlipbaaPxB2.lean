/-
  A round of the second loop of PrefixAbove: within it, for the first two, the third loop.
-/
import Derived.Test.YthmekipdhlipbaaPxAb
import Derived.Test.YthmekipdhlipbaaPxG20
import Derived.Test.YthmekipdhlipbaaPxB3
import Derived.Laws.EntriesVeiled
namespace Go.Proofs.Ythmekipdhlipbaa
open Go.RowKit Go.Shelf
set_option linter.unusedVariables false
set_option linter.unusedSimpArgs false
attribute [local go_sem] Oper.semAt_some

set_option maxRecDepth 100000 in
set_option maxHeartbeats 4000000 in
theorem body2 (l B0 : Nat) (r : Loop) (Q : Exit → Act → World → Prop) (t0 t1 t2 t3 t8 t10 t11 t12 t13 t14 t15 t16 t17 t18 t19 t20 t21 t22 t23 t24 t25 t26 t27 t28 t29 t30 t31 t32 t33 t34 t35 t36 t37 t38 t39 t40 t41 t42 t43 t44 t45 t46 t47 t48 t49 t50 t51 t52 t53 t54 t55 t56 t57 t58 t59 t60 t61 t62 t63 t64 t65 t66 t67 t68 t69 t70 t71 t72 t73 t74 t75 t76 t77 t78 t79 t80 t81 t82 t83 t84 t85 t86 t87 t88 t89 t90 t91 t92 t93 t94 t95 t96 t97 t98 : Value) (b c a : Nat) (n : Int) (vad : Option Addr) (cap : Nat) (E : Int) (D : List Pxx) (k pa pn Bx : Nat) (W : World) (ha : a < 4294967296) (hD : D = comes a n)
    (hI : Inv b c a n vad cap E (nums D) k W) (hk : k < (nums D).length) (hL : (nums D).length ≤ 33) (hbc : b + 1 + 1 < c) (hB0 : c + 1 + 1 + 1 < B0) (hB1 : B0 ≤ W.heap.size) (hl : B0 ≤ l) (hr : W.heap[l]? = some (.loop r))
    (cx0 : W.cell? ⟨Bx, 0, none⟩ = some (.int .u32 (pa : Int))) (cx1 : W.cell? ⟨Bx, 1, none⟩ = some (.int .i64 (pn : Int)))
    (hret : ¬ ((nums D)[k]) = (pa, pn) → ∀ a', Q .ret a' ((W.setCell ⟨b + 1 + 1, 0, none⟩ (.bool false)).drew))
    (hok : ((nums D)[k]) = (pa, pn) → ∀ a' W', Inv b c a n vad cap E (nums D) ((k : Int) + 1) W' → Below (c + 1 + 1) W W' → KeepsFrom B0 W W' → Q .normal a' W') :
    Code.wpIn (Fence.wide.inRound l) 7 Try.prog (Code.block 3 (((Code.region 20 #[{ dst := some 56, op := Op.load 3 (Operand.tmp 7), type := 3, pos := "law.go:105", after := #[], guard := none }, { dst := some 57, op := Op.load 25 (Operand.tmp 5), type := 25, pos := "law.go:105", after := #[], guard := none }, { dst := some 58, op := Op.call { callee := Callee.builtin Builtin.len, args := #[Operand.tmp 57], argTypes := #[25] }, type := 3, pos := "law.go:105", after := #[{ on := 1, ground := Ground.data }], guard := none }, { dst := some 59, op := Op.binOp BinOp.geq 3 (Operand.tmp 56) (Operand.tmp 58) 3, type := 4, pos := "law.go:105", after := #[{ on := 0, ground := Ground.data }, { on := 2, ground := Ground.data }], guard := none }, { dst := some 60, op := Op.move (Operand.tmp 59), type := 4, pos := "law.go:105", after := #[{ on := 3, ground := Ground.data }], guard := none }, { dst := some 61, op := Op.load 24 (Operand.tmp 9), type := 24, pos := "law.go:105", after := #[{ on := 4, ground := Ground.guard }], guard := some (4, false) }, { dst := some 62, op := Op.load 25 (Operand.tmp 5), type := 25, pos := "law.go:105", after := #[{ on := 4, ground := Ground.guard }], guard := some (4, false) }, { dst := some 63, op := Op.load 3 (Operand.tmp 7), type := 3, pos := "law.go:105", after := #[{ on := 4, ground := Ground.guard }], guard := some (4, false) }, { dst := some 64, op := Op.indexAddr 25 (Operand.tmp 62) (Operand.tmp 63), type := 0, pos := "law.go:105", after := #[{ on := 6, ground := Ground.data }, { on := 7, ground := Ground.data }, { on := 4, ground := Ground.guard }], guard := some (4, false) }, { dst := some 65, op := Op.load 24 (Operand.tmp 64), type := 24, pos := "law.go:105", after := #[{ on := 8, ground := Ground.data }, { on := 4, ground := Ground.guard }], guard := some (4, false) }, { dst := some 66, op := Op.binOp BinOp.neq 24 (Operand.tmp 61) (Operand.tmp 65) 24, type := 4, pos := "law.go:105", after := #[{ on := 5, ground := Ground.data }, { on := 9, ground := Ground.data }, { on := 4, ground := Ground.guard }], guard := some (4, false) }, { dst := some 67, op := Op.pick (Operand.tmp 60) (Operand.const (Value.bool true)) (Operand.tmp 66), type := 4, pos := "law.go:105", after := #[{ on := 4, ground := Ground.data }, { on := 10, ground := Ground.data }], guard := none }] true).seq (Code.cond (Operand.tmp 67) ((Code.region 21 #[{ dst := none, op := Op.store 4 (Operand.tmp 4) (Operand.const (Value.bool false)), type := 0, pos := "law.go:106", after := #[], guard := none }] false).seq Code.ret) Code.skip)).seq ((Code.region 22 #[{ dst := some 68, op := Op.load 3 (Operand.tmp 7), type := 3, pos := "law.go:108", after := #[], guard := none }, { dst := some 69, op := Op.binOp BinOp.add 3 (Operand.tmp 68) (Operand.const (Value.int IntKind.i64 1)) 3, type := 3, pos := "law.go:108", after := #[{ on := 0, ground := Ground.data }], guard := none }, { dst := none, op := Op.store 3 (Operand.tmp 7) (Operand.tmp 69), type := 0, pos := "law.go:108", after := #[{ on := 1, ground := Ground.data }, { on := 0, ground := Ground.phase }, { on := 1, ground := Ground.phase }], guard := none }] false).seq (((Code.region 23 #[{ dst := some 70, op := Op.load 3 (Operand.tmp 7), type := 3, pos := "law.go:109", after := #[], guard := none }, { dst := some 71, op := Op.binOp BinOp.gtr 3 (Operand.tmp 70) (Operand.const (Value.int IntKind.i64 2)) 3, type := 4, pos := "law.go:109", after := #[{ on := 0, ground := Ground.data }], guard := none }] false).seq (Code.cond (Operand.tmp 71) (Code.exit 3) Code.skip)).seq ((Code.region 24 #[{ dst := some 10, op := Op.alloc 3, type := 0, pos := "law.go:112", after := #[], guard := none }, { dst := none, op := Op.store 3 (Operand.tmp 10) (Operand.const (Value.int IntKind.i64 0)), type := 0, pos := "law.go:112", after := #[{ on := 0, ground := Ground.data }, { on := 0, ground := Ground.phase }], guard := none }] false).seq (((Code.region 25 #[{ dst := some 72, op := Op.load 28 (Operand.tmp 6), type := 28, pos := "law.go:113", after := #[], guard := none }] false).seq (Code.block 4 (Code.rangeFunc (Operand.tmp 72) #[73] (Code.region 26 #[{ dst := some 11, op := Op.alloc 24, type := 0, pos := "law.go:113", after := #[], guard := none }, { dst := none, op := Op.store 24 (Operand.tmp 11) (Operand.tmp 73), type := 0, pos := "law.go:113", after := #[{ on := 0, ground := Ground.data }, { on := 0, ground := Ground.phase }], guard := none }] false) (Code.block 5 (((Code.region 27 #[{ dst := some 74, op := Op.load 3 (Operand.tmp 10), type := 3, pos := "law.go:114", after := #[], guard := none }, { dst := some 75, op := Op.load 25 (Operand.tmp 5), type := 25, pos := "law.go:114", after := #[], guard := none }, { dst := some 76, op := Op.call { callee := Callee.builtin Builtin.len, args := #[Operand.tmp 75], argTypes := #[25] }, type := 3, pos := "law.go:114", after := #[{ on := 1, ground := Ground.data }], guard := none }, { dst := some 77, op := Op.binOp BinOp.geq 3 (Operand.tmp 74) (Operand.tmp 76) 3, type := 4, pos := "law.go:114", after := #[{ on := 0, ground := Ground.data }, { on := 2, ground := Ground.data }], guard := none }, { dst := some 78, op := Op.move (Operand.tmp 77), type := 4, pos := "law.go:114", after := #[{ on := 3, ground := Ground.data }], guard := none }, { dst := some 79, op := Op.load 24 (Operand.tmp 11), type := 24, pos := "law.go:114", after := #[{ on := 4, ground := Ground.guard }], guard := some (4, false) }, { dst := some 80, op := Op.load 25 (Operand.tmp 5), type := 25, pos := "law.go:114", after := #[{ on := 4, ground := Ground.guard }], guard := some (4, false) }, { dst := some 81, op := Op.load 3 (Operand.tmp 10), type := 3, pos := "law.go:114", after := #[{ on := 4, ground := Ground.guard }], guard := some (4, false) }, { dst := some 82, op := Op.indexAddr 25 (Operand.tmp 80) (Operand.tmp 81), type := 0, pos := "law.go:114", after := #[{ on := 6, ground := Ground.data }, { on := 7, ground := Ground.data }, { on := 4, ground := Ground.guard }], guard := some (4, false) }, { dst := some 83, op := Op.load 24 (Operand.tmp 82), type := 24, pos := "law.go:114", after := #[{ on := 8, ground := Ground.data }, { on := 4, ground := Ground.guard }], guard := some (4, false) }, { dst := some 84, op := Op.binOp BinOp.neq 24 (Operand.tmp 79) (Operand.tmp 83) 24, type := 4, pos := "law.go:114", after := #[{ on := 5, ground := Ground.data }, { on := 9, ground := Ground.data }, { on := 4, ground := Ground.guard }], guard := some (4, false) }, { dst := some 85, op := Op.pick (Operand.tmp 78) (Operand.const (Value.bool true)) (Operand.tmp 84), type := 4, pos := "law.go:114", after := #[{ on := 4, ground := Ground.data }, { on := 10, ground := Ground.data }], guard := none }] true).seq (Code.cond (Operand.tmp 85) ((Code.region 28 #[{ dst := none, op := Op.store 4 (Operand.tmp 4) (Operand.const (Value.bool false)), type := 0, pos := "law.go:115", after := #[], guard := none }] false).seq Code.ret) Code.skip)).seq (Code.region 29 #[{ dst := some 86, op := Op.load 3 (Operand.tmp 10), type := 3, pos := "law.go:117", after := #[], guard := none }, { dst := some 87, op := Op.binOp BinOp.add 3 (Operand.tmp 86) (Operand.const (Value.int IntKind.i64 1)) 3, type := 3, pos := "law.go:117", after := #[{ on := 0, ground := Ground.data }], guard := none }, { dst := none, op := Op.store 3 (Operand.tmp 10) (Operand.tmp 87), type := 0, pos := "law.go:117", after := #[{ on := 1, ground := Ground.data }, { on := 0, ground := Ground.phase }, { on := 1, ground := Ground.phase }], guard := none }] false)))))).seq ((Code.region 30 #[{ dst := some 88, op := Op.load 3 (Operand.tmp 10), type := 3, pos := "law.go:119", after := #[], guard := none }, { dst := some 89, op := Op.load 25 (Operand.tmp 5), type := 25, pos := "law.go:119", after := #[], guard := none }, { dst := some 90, op := Op.call { callee := Callee.builtin Builtin.len, args := #[Operand.tmp 89], argTypes := #[25] }, type := 3, pos := "law.go:119", after := #[{ on := 1, ground := Ground.data }], guard := none }, { dst := some 91, op := Op.binOp BinOp.neq 3 (Operand.tmp 88) (Operand.tmp 90) 3, type := 4, pos := "law.go:119", after := #[{ on := 0, ground := Ground.data }, { on := 2, ground := Ground.data }], guard := none }] false).seq (Code.cond (Operand.tmp 91) ((Code.region 31 #[{ dst := none, op := Op.store 4 (Operand.tmp 4) (Operand.const (Value.bool false)), type := 0, pos := "law.go:120", after := #[], guard := none }] false).seq Code.ret) Code.skip)))))))) Q { tmps := #[t0, t1, t2, t3, .pointer (some ⟨b + 1 + 1, 0, none⟩), .pointer (some ⟨c, 0, none⟩), .pointer (some ⟨c + 1 + 1, 0, none⟩), .pointer (some ⟨c + 1 + 1 + 1, 0, none⟩), t8, .pointer (some ⟨Bx, 0, none⟩), t10, t11, t12, t13, t14, t15, t16, t17, t18, t19, t20, t21, t22, t23, t24, t25, t26, t27, t28, t29, t30, t31, t32, t33, t34, t35, t36, t37, t38, t39, t40, t41, t42, t43, t44, t45, t46, t47, t48, t49, t50, t51, t52, t53, t54, t55, t56, t57, t58, t59, t60, t61, t62, t63, t64, t65, t66, t67, t68, t69, t70, t71, t72, t73, t74, t75, t76, t77, t78, t79, t80, t81, t82, t83, t84, t85, t86, t87, t88, t89, t90, t91, t92, t93, t94, t95, t96, t97, t98], defers := [] } W := by
  have hI0 := hI
  obtain ⟨g, rfl, hg1, hg2, hrow⟩ := hI.row (by omega)
  obtain ⟨q0, q1⟩ := hrow k hk
  obtain ⟨qa, hqa⟩ : ∃ z, z = ((nums D)[k]).1 := ⟨_, rfl⟩
  obtain ⟨qn, hqn⟩ : ∃ z, z = ((nums D)[k]).2 := ⟨_, rfl⟩
  rw [← hqa] at q0
  rw [← hqn] at q1
  have hLk : (nums D)[k] = (qa, qn) := Prod.ext hqa.symm hqn.symm
  rw [hLk] at hret hok
  have c7 := hI.cnt
  have f7 := hI.cntF
  have c5 := hI.want
  have c4 := hI.ans
  have f4 := hI.ansF
  have c6 := hI.seq
  have hk0 : (0 : Int) ≤ (k : Int) := by omega
  have hkb : (k : Int) ≤ 33 := by omega
  have n67 : ¬ c + 1 + 1 = c + 1 + 1 + 1 := by omega
  have s0 : c < W.heap.size := by omega
  have s1 : c + 1 + 1 < W.heap.size := by omega
  have s2 : c + 1 + 1 + 1 < W.heap.size := by omega
  have s3 : b + 1 + 1 < W.heap.size := by omega
  have n57 : ¬ c = c + 1 + 1 + 1 := by omega
  obtain ⟨N, hN⟩ : ∃ N, N = (nums D).length := ⟨_, rfl⟩
  have HN : Hid (N = (nums D).length) := hN
  rw [← hN] at c5 hk hL
  have HI0 : Hid (Inv b c a n (some ⟨g, 0, none⟩) cap E (nums D) k W) := hI0
  clear hI hI0 hrow hqa hqn hLk hN
  by_cases e1 : qa = pa
  · by_cases e2 : qn = pn
    · subst e1 e2
      have hx := hok rfl
      clear hok hret
      have HX : Hid (∀ a' W', Inv b c a n (some ⟨g, 0, none⟩) cap E (nums D) ((k : Int) + 1) W' → Below (c + 1 + 1) W W' → KeepsFrom B0 W W' → Q .normal a' W') := hx
      clear hx
      have I1 : Hid (Inv b c a n (some ⟨g, 0, none⟩) cap E (nums D) ((k : Int) + 1) (W.setCell ⟨c + 1 + 1 + 1, 0, none⟩ (.int .i64 ((k : Int) + 1))).drew) := (HI0.out.set hbc _).drew
      have hbl1 : Hid (Below (c + 1 + 1) W (W.setCell ⟨c + 1 + 1 + 1, 0, none⟩ (.int .i64 ((k : Int) + 1))).drew) := ((Below.refl _ W).setCell (by show c + 1 + 1 ≤ c + 1 + 1 + 1; omega) _).drew
      have hkf1 : Hid (KeepsFrom B0 W (W.setCell ⟨c + 1 + 1 + 1, 0, none⟩ (.int .i64 ((k : Int) + 1))).drew) := ((KeepsOthers.setCell _ _ _).trans (KeepsOthers.drew _)).from _
      by_cases hk2 : 2 < k + 1
      · have hk2' : (2 : Int) < (k : Int) + 1 := by omega
        gi_wp2
        refine reg20_ok l 7 _ _ _ _ _ _ _ _ _ _ _ _ _ _ _ _ _ _ _ _ _ _ _ _ _ _ _ _ _ _ _ _ _ _ _ _ _ _ _ _ _ _ _ _ _ _ _ _ _ _ _ _ _ _ _ _ _ _ _ _ _ _ _ _ _ _ _ _ _ _ _ _ _ _ _ _ _ _ _ _ _ _ _ _ _ _ _ _ _ _ _ _ _ _ _ _ _ c (c + 1 + 1 + 1) Bx g cap N k qa qn qa qn W hL hk c7 c5 q0 q1 cx0 cx1 rfl rfl ?_
        intro u56 u57 u58 u59 u60 u61 u62 u63 u64 u65 u66
        gi_wp2
        exact HX.out _ _ I1.out hbl1.out hkf1.out
      · have hk2' : ¬ (2 : Int) < (k : Int) + 1 := by omega
        gi_wp2
        refine reg20_ok l 7 _ _ _ _ _ _ _ _ _ _ _ _ _ _ _ _ _ _ _ _ _ _ _ _ _ _ _ _ _ _ _ _ _ _ _ _ _ _ _ _ _ _ _ _ _ _ _ _ _ _ _ _ _ _ _ _ _ _ _ _ _ _ _ _ _ _ _ _ _ _ _ _ _ _ _ _ _ _ _ _ _ _ _ _ _ _ _ _ _ _ _ _ _ _ _ _ _ c (c + 1 + 1 + 1) Bx g cap N k qa qn qa qn W hL hk c7 c5 q0 q1 cx0 cx1 rfl rfl ?_
        intro u56 u57 u58 u59 u60 u61 u62 u63 u64 u65 u66
        gi_wp2
        obtain ⟨W2, hW2⟩ : ∃ W2, ((W.setCell ⟨c + 1 + 1 + 1, 0, none⟩ (.int .i64 ((k : Int) + 1))).alloc (.cells #[.int .i64 0] 3)).drew = W2 := ⟨_, rfl⟩
        rw [hW2]
        have hz2 : W2.heap.size = W.heap.size + 1 := by rw [← hW2]; simp [World.drew, World.setCell]
        have hsz1 : (W.setCell ⟨c + 1 + 1 + 1, 0, none⟩ (.int .i64 ((k : Int) + 1))).heap.size = W.heap.size := by simp [World.setCell]
        have hI2 : Hid (Inv b c a n (some ⟨g, 0, none⟩) cap E (nums D) ((k : Int) + 1) W2) := by
          show Inv _ _ _ _ _ _ _ _ _ _
          rw [← hW2]
          exact ((HI0.out.set hbc _).below ((Below.refl _ _).alloc (Nat.le_refl _) _)).drew
        have hj2 : W2.cell? ⟨W.heap.size, 0, none⟩ = some (.int .i64 0) ∧ W2.frozen? ⟨W.heap.size, 0, none⟩ = false := by rw [← hW2]; simp [go_sem]
        have hbl2 : Hid (Below (c + 1 + 1) W W2) := by
          show Below _ _ _
          rw [← hW2]
          exact ((((Below.refl _ W).setCell (by show c + 1 + 1 ≤ c + 1 + 1 + 1; omega) _)).alloc (by rw [hsz1]; omega) _).drew
        have hkf2 : Hid (KeepsFrom B0 W W2) := by
          show KeepsFrom _ _ _
          rw [← hW2]
          exact (((KeepsOthers.setCell _ _ _).trans (KeepsOthers.alloc _ _)).trans (KeepsOthers.drew _)).from _
        have hr2 : W2.heap[l]? = some (.loop r) := by
          have h1 : l < W.heap.size := (Array.getElem?_eq_some_iff.1 hr).1
          rw [← hW2]
          show ((W.setCell ⟨c + 1 + 1 + 1, 0, none⟩ (.int .i64 ((k : Int) + 1))).alloc (.cells #[.int .i64 0] 3)).heap[l]? = _
          rw [Below.heap_alloc _ _ _ (by rw [hsz1]; exact h1), Below.heap_setCell _ _ _ _ (by show l ≠ c + 1 + 1 + 1; omega)]
          exact hr
        clear hW2 I1 hbl1 hkf1 c7 f7 c5 c4 f4 c6 q0 q1 cx0 cx1 hr
        refine range_in l r 73 11 hr2 rfl (n₀ := c + 1 + 1) (by omega) ((above_seq 6 (by decide) (c + 1) (c + 1 + 1) a n ha W2 (by omega) (by omega) hI2.out.pre0 hI2.out.pre1).inRound l)
          (fun pre V => Inv b c a n (some ⟨g, 0, none⟩) cap E (nums D) ((k : Int) + 1) V ∧ (V.cell? ⟨W.heap.size, 0, none⟩ = some (.int .i64 (pre.length : Int)) ∧ V.frozen? ⟨W.heap.size, 0, none⟩ = false) ∧ (Below (c + 1 + 1) W V ∧ KeepsFrom B0 W V) ∧ (W2.heap.size ≤ V.heap.size ∧ pre <+: D))
          (fun cc pre V => cc = .ret ∧ ¬ pre <+: D)
          ?hI (fun cc s A B row hs _ _ => hs) ?h0 ?assign (fun _ _ h => h.2.2.2.1) ?body ?done ?stop
        case hI => exact OwnFrom.and (Own.from (Inv.own b c a n (some ⟨g, 0, none⟩) cap E (nums D) (fun _ => (k : Int) + 1)) _) (OwnFrom.and (Own.from (fun s A B row hs hg hr => ⟨cell_kept hs.1 hg hr, (frozen_kept hs.1 hg hr).trans hs.2⟩) _) (OwnFrom.and (OwnFrom.and (ownFrom_below (by omega) (by omega)) (ownFrom_keepsFrom (by omega))) (fun s A B row hs hg _ => ⟨Nat.le_trans hs.1 hg.size, hs.2⟩)))
        case h0 => exact ⟨hI2.out, hj2, ⟨hbl2.out, hkf2.out⟩, Nat.le_refl _, List.nil_prefix⟩
        case assign =>
          intro l2 pre x V K hi hz hK
          simp only [List.setIfInBounds_toArray, List.set_cons_succ, List.set_cons_zero] at hK ⊢
          gi_wp2
          exact hK
        case stop =>
          rintro cc pre V hpre ⟨rfl, hbad⟩
          exact absurd (by rw [hD]; exact hpre) hbad
        case body =>
          rintro l2 pre ⟨⟨pa2, pn2⟩, hpa, hpn⟩ Bx2 V hl2 hr2' hBx2 y0 y1 ⟨hIV, ⟨cj, fj⟩, ⟨hbV, hkV⟩, hzV, hpre⟩ hN2
          simp only [List.setIfInBounds_toArray, List.set_cons_succ, List.set_cons_zero]
          have hlD : pre.length < D.length := by rw [hD]; exact hN2
          have hklt : pre.length < (nums D).length := by simpa [nums] using hlD
          have hnx := next_any (x := ⟨(pa2, pn2), hpa, hpn⟩) hpre hlD
          generalize hQ : ownPostG _ _ _ _ _ _ = Q2
          refine body3 l2 Q2 _ _ _ _ _ _ _ _ _ _ _ _ _ _ _ _ _ _ _ _ _ _ _ _ _ _ _ _ _ _ _ _ _ _ _ _ _ _ _ _ _ _ _ _ _ _ _ _ _ _ _ _ _ _ _ _ _ _ _ _ _ _ _ _ _ _ _ _ _ _ _ _ _ _ _ _ _ _ _ _ _ _ _ _ _ _ _ _ _ _ _ _ _ _ _ b c a n (some ⟨g, 0, none⟩) cap E (nums D) ((k : Int) + 1) pre.length pa2 pn2 Bx2 W.heap.size V hIV hklt (by rw [← HN.out]; exact hL) cj fj y0 y1 ?_ ?_
          · intro hne a'
            rw [← hQ]
            exact ⟨((KeepsOthers.setCell _ _ _).trans (KeepsOthers.drew _)).from _, rfl, fun h => hne (hnx.1 h).symm⟩
          · intro heq a'
            rw [← hQ]
            refine ⟨((KeepsOthers.setCell _ _ _).trans (KeepsOthers.drew _)).from _, ((Below.refl _ V).setCell (by show c + 1 + 1 ≤ W.heap.size; omega) _).drew, (hIV.other hbc (by omega) _).drew, ⟨?_, ?_⟩, ⟨(hbV.setCell (by show c + 1 + 1 ≤ W.heap.size; omega) _).drew, hkV.trans (((KeepsOthers.setCell _ _ _).trans (KeepsOthers.drew _)).from _)⟩, ?_, hnx.2 heq.symm⟩
            · rw [List.length_append]
              exact World.cell?_setCell_same' V ⟨W.heap.size, 0, none⟩ _ (by rw [cj]; rfl)
            · show (V.setCell ⟨W.heap.size, 0, none⟩ (.int .i64 ((pre.length : Int) + 1))).frozen? ⟨W.heap.size, 0, none⟩ = false
              rw [World.frozen?_setCell]; exact fj
            · show W2.heap.size ≤ (V.setCell ⟨W.heap.size, 0, none⟩ (.int .i64 ((pre.length : Int) + 1))).heap.size
              simp [World.setCell]; omega
        case done =>
          rintro xs V hxs ⟨hIV, ⟨cj, fj⟩, ⟨hbV, hkV⟩, hzV, hpre⟩
          have hlx : xs.length = N := by rw [HN.out, hxs, hD]; simp [nums]
          rw [hlx] at cj
          have c5 := hIV.want
          rw [← HN.out] at c5
          have HIV : Hid (Inv b c a n (some ⟨g, 0, none⟩) cap E (nums D) ((k : Int) + 1) V) := hIV
          have HBV : Hid (Below (c + 1 + 1) W V) := hbV
          have HKV : Hid (KeepsFrom B0 W V) := hkV
          clear hIV hbV hkV hpre hlx hxs hI2 hbl2 hkf2 hj2 hr2 HI0 HN
          gi_wp2
          exact HX.out _ _ HIV.out HBV.out HKV.out
    · subst e1
      have hx := hret (fun h => e2 (by cases h; rfl))
      clear hok hret
      gi_wp2
      refine reg20_nn l 7 _ _ _ _ _ _ _ _ _ _ _ _ _ _ _ _ _ _ _ _ _ _ _ _ _ _ _ _ _ _ _ _ _ _ _ _ _ _ _ _ _ _ _ _ _ _ _ _ _ _ _ _ _ _ _ _ _ _ _ _ _ _ _ _ _ _ _ _ _ _ _ _ _ _ _ _ _ _ _ _ _ _ _ _ _ _ _ _ _ _ _ _ _ _ _ _ _ c (c + 1 + 1 + 1) Bx g cap N k qa qn qa pn W hL hk c7 c5 q0 q1 cx0 cx1 rfl (fun h => e2 h.symm) ?_
      intro u56 u57 u58 u59 u60 u61 u62 u63 u64 u65 u66
      gi_wp2
      exact hx _
  · have hx := hret (fun h => e1 (by cases h; rfl))
    clear hok hret
    gi_wp2
    refine reg20_na l 7 _ _ _ _ _ _ _ _ _ _ _ _ _ _ _ _ _ _ _ _ _ _ _ _ _ _ _ _ _ _ _ _ _ _ _ _ _ _ _ _ _ _ _ _ _ _ _ _ _ _ _ _ _ _ _ _ _ _ _ _ _ _ _ _ _ _ _ _ _ _ _ _ _ _ _ _ _ _ _ _ _ _ _ _ _ _ _ _ _ _ _ _ _ _ _ _ _ c (c + 1 + 1 + 1) Bx g cap N k qa qn pa pn W hL hk c7 c5 q0 q1 cx0 cx1 (fun h => e1 h.symm) ?_
    intro u56 u57 u58 u59 u60 u61 u62 u63 u64 u65 u66
    gi_wp2
    exact hx _
end Go.Proofs.Ythmekipdhlipbaa
