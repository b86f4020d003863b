/-
  For every mask, mask.All tells what the document says, in its order, also left early, ranged over again and within itself (P4.2); the examples of the document hold.
  Conditions: none; the law holds for every input.
-/
import Derived.Test.YtphfjhkbbodfaaaMkAw
import Derived.Test.YtphfjhkbbodfaaaMkAb
import Derived.Test.YtphfjhkbbodfaaaMkBo
import Derived.Laws.EntriesVeiled
import Derived.Test.YtphfjhkbbodfaaaMkFrame
namespace Go.Proofs.Ytphfjhkbbodfaaa
open Go.ChangeShapes Go.WideShapes Go.ChangeAt Go.RowKit Go.Joins
set_option linter.unusedVariables false
set_option linter.unusedSimpArgs false

attribute [local go_sem] Oper.semAt_some
set_option maxRecDepth 100000 in
set_option maxHeartbeats 4000000 in
theorem maskAll_walk (a n : Nat) (ha : a < 256) (hn : n < 256) (early : Int) (he : (Lit.int .i64 early).wf = true) (w : World) :
    Calls Try.prog 4 #[.agg #[.int .u8 a, .int .u8 n], .int .i64 early] w fun e w' => e = .returned (.bool true) ∧ Below w.heap.size w w' := by
  have h1 : -9223372036854775808 ≤ early ∧ early ≤ 9223372036854775807 := by
    have : IntKind.i64.min ≤ early ∧ early ≤ IntKind.i64.max := by simpa [Lit.wf] using he
    exact this
  obtain ⟨D, hD⟩ : ∃ D, D = allX a n 256 := ⟨_, rfl⟩
  have hDl : D.length ≤ 256 := by rw [hD, allX_length a n 256 (Nat.le_refl _)]; exact allN_le a n 256
  have hra := fun W => rallM a n W ha hn
  have hnum : allN a n 256 = nums D := by rw [hD, ← allX_nums a n 256 (Nat.le_refl _)]; rfl
  rw [hnum] at hra
  have HD : Hid (D = allX a n 256) := hD
  clear hD hnum
  refine callsIn_wide.1 (callsIn_of_wp_marks (n := 9) Try.func4 rfl trivial ?_ rfl)
  simp only [Try.ntmps4, List.size_toArray, List.length_cons, List.length_nil, Nat.reduceAdd, Nat.reduceSub, Array.replicate_succ, Array.replicate_zero, List.push_toArray, List.append_toArray, List.nil_append, List.cons_append]
  refine wpIn_wide.2 ?_
  go_wp2_with (fail)
  refine (hra _).mono ?_
  rintro e w1 ⟨v1, rfl, r1, hb1⟩
  have hz1 := hb1.size
  simp at hz1
  have R1 : Hid (RowB w1 (w.heap.size + 1 + 1 + 1) v1 (nums D)) := by simp only [World.size_alloc] at r1; exact r1
  have x0 : w1.cell? ⟨w.heap.size, 0, none⟩ = some (.int .u8 a) := cell_on1 hb1 (cell_allocB (cell_allocB (by simp [go_sem])))
  have x1 : w1.cell? ⟨w.heap.size, 1, none⟩ = some (.int .u8 n) := cell_on1 hb1 (cell_allocB (cell_allocB (by simp [go_sem])))
  have x2 : w1.cell? ⟨w.heap.size + 1, 0, none⟩ = some (.int .i64 early) := cell_on1 hb1 (cell_allocB (by simp [go_sem]))
  have x3 : w1.cell? ⟨w.heap.size + 1 + 1, 0, none⟩ = some (.bool false) := cell_on1 hb1 (by simp [go_sem])
  have f2 : w1.frozen? ⟨w.heap.size + 1, 0, none⟩ = false := frozen_on hb1 (v := .int .i64 early) (cell_allocB (by simp [go_sem])) (by simp [go_sem])
  have f3 : w1.frozen? ⟨w.heap.size + 1 + 1, 0, none⟩ = false := frozen_on hb1 (show _ = some (Value.bool false) from by simp [go_sem]) (by simp [go_sem])
  have B1 : Hid (Below w.heap.size w w1) := by show Below _ _ _; (repeat (first | assumption | exact Below.refl _ _ | refine Below.drew ?_ | refine bel_drewN ?_ _ | refine Below.setCell ?_ (by first | omega | (simp; done) | (simp; omega)) _ | refine Below.alloc ?_ (by first | omega | (simp; done) | (simp; omega)) _ | refine bel_of ?_ (by assumption)))
  have hl0 : w.heap.size < w1.heap.size := by omega
  have hl1 : w.heap.size + 1 < w1.heap.size := by omega
  have hl2 : w.heap.size + 1 + 1 < w1.heap.size := by omega
  obtain ⟨vad, vcap, rfl, hat⟩ := R1.out.shape
  have hlenD : (nums D).length = D.length := by simp [nums]
  rw [hlenD] at R1 ⊢
  clear r1 hb1 hra he
  go_wp2_with (fail)
  refine (all_any a n _).mono ?_
  rintro e w' ⟨rfl, hw⟩
  obtain rfl := hw
  have hnf := eq_nilFunc
  by_cases hneg : early < 0
  · go_wp2_with (fail)
    rename_i K hKa
    obtain ⟨E, hE, hEl⟩ : ∃ E : Nat, -((early + 1).tmod ((D.length : Int) + 1)) = (E : Int) ∧ E ≤ D.length := by
      have h2 := Int.emod_nonneg (-(early + 1)) (show ((D.length : Int) + 1) ≠ 0 by omega)
      have h3 := Int.emod_lt_of_pos (-(early + 1)) (show (0 : Int) < (D.length : Int) + 1 by omega)
      have h4 : -((early + 1).tmod ((D.length : Int) + 1)) = (-(early + 1)) % ((D.length : Int) + 1) := by rw [← Int.neg_tmod, Int.tmod_eq_emod_of_nonneg (by omega)]
      exact ⟨((-(early + 1)) % ((D.length : Int) + 1)).toNat, by rw [h4]; omega, by omega⟩
    rw [hE]
    clear hE
    obtain ⟨W0, hW0⟩ : ∃ W0, (((((w1.setCell ⟨w.heap.size + 1, 0, none⟩ (.int .i64 (-(early + 1)))).setCell ⟨w.heap.size + 1, 0, none⟩ (.int .i64 (E : Int))).alloc (.cells #[.slice vad D.length vcap] 29)).alloc (.cells #[.int .u8 a, .int .u8 n] 23)).alloc (.cells #[.func (.func 30) #[] #[.pointer (some ⟨w1.heap.size + 1, 0, none⟩)]] 32)).alloc (.cells #[.int .i64 0] 3) = W0 := ⟨_, rfl⟩
    rw [hW0]
    have hz0 : W0.heap.size = w1.heap.size + 1 + 1 + 1 + 1 := by rw [← hW0]; simp [World.setCell]
    have hc : ∀ (B i : Nat) (v : Value), B ≠ w.heap.size + 1 → w1.cell? ⟨B, i, none⟩ = some v → W0.cell? ⟨B, i, none⟩ = some v := by
      intro B i v hB h
      rw [← hW0]
      exact cell_allocB (cell_allocB (cell_allocB (cell_allocB ((World.cell?_of_block (a := ⟨B, i, none⟩) (Below.heap_setCell _ _ _ B hB)).trans ((World.cell?_of_block (a := ⟨B, i, none⟩) (Below.heap_setCell _ _ _ B hB)).trans h)))))
    have hInv : Hid (Inv w.heap.size w1.heap.size a n vad vcap (E : Int) (nums D) 0 W0) := by
      refine ⟨?_, hc _ _ _ (by omega) x3, ?_, ?_, ?_, ?_, ?_, ?_, ?_, ?_⟩
      · rw [← hW0]; exact cell_allocB (cell_allocB (cell_allocB (cell_allocB (World.cell?_setCell_same' _ ⟨w.heap.size + 1, 0, none⟩ _ (by rw [World.cell?_setCell_same' _ ⟨w.heap.size + 1, 0, none⟩ _ (by rw [x2]; rfl)]; rfl)))))
      · rw [← hW0]
        have cS : ((w1.setCell ⟨w.heap.size + 1, 0, none⟩ (.int .i64 (-(early + 1)))).setCell ⟨w.heap.size + 1, 0, none⟩ (.int .i64 (E : Int))).cell? ⟨w.heap.size + 1 + 1, 0, none⟩ = some (.bool false) := (World.cell?_of_block (a := ⟨w.heap.size + 1 + 1, 0, none⟩) (Below.heap_setCell _ ⟨w.heap.size + 1, 0, none⟩ _ (w.heap.size + 1 + 1) (by show w.heap.size + 1 + 1 ≠ w.heap.size + 1; omega))).trans ((World.cell?_of_block (a := ⟨w.heap.size + 1 + 1, 0, none⟩) (Below.heap_setCell _ ⟨w.heap.size + 1, 0, none⟩ _ (w.heap.size + 1 + 1) (by show w.heap.size + 1 + 1 ≠ w.heap.size + 1; omega))).trans x3)
        have fS : ((w1.setCell ⟨w.heap.size + 1, 0, none⟩ (.int .i64 (-(early + 1)))).setCell ⟨w.heap.size + 1, 0, none⟩ (.int .i64 (E : Int))).frozen? ⟨w.heap.size + 1 + 1, 0, none⟩ = false := by rw [World.frozen?_setCell, World.frozen?_setCell]; exact f3
        exact frozen_alloc (cell_allocB (cell_allocB (cell_allocB cS))) (frozen_alloc (cell_allocB (cell_allocB cS)) (frozen_alloc (cell_allocB cS) (frozen_alloc cS fS)))
      · rw [← hW0, hlenD]; simp [go_sem, World.setCell]
      · rw [← hW0]; simp [go_sem, World.setCell]
      · rw [← hW0]; simp [go_sem, World.setCell]
      · rw [← hW0]; simp [go_sem, World.setCell]
      · rw [← hW0]; simp [go_sem, World.setCell]
      · rw [← hW0]; simp [go_sem, World.setCell]
      · intro h0
        obtain ⟨g, e, e1, e2, e3⟩ := hat h0
        exact ⟨g, e, e2, by omega, fun j hj => hc _ _ _ (by omega) (e3 j hj)⟩
    have hB0 : Hid (Below w.heap.size w W0) := by
      show Below _ _ _
      rw [← hW0]
      exact (((((B1.out.setCell (p := ⟨w.heap.size + 1, 0, none⟩) (by show w.heap.size ≤ w.heap.size + 1; omega) _).setCell (p := ⟨w.heap.size + 1, 0, none⟩) (by show w.heap.size ≤ w.heap.size + 1; omega) _).alloc (by first | omega | (simp [World.setCell]; done) | (simp [World.setCell]; omega)) _).alloc (by first | omega | (simp [World.setCell]; done) | (simp [World.setCell]; omega)) _).alloc (by first | omega | (simp [World.setCell]; done) | (simp [World.setCell]; omega)) _).alloc (by first | omega | (simp [World.setCell]; done) | (simp [World.setCell]; omega)) _
    have hbc : w.heap.size + 1 + 1 < w1.heap.size := hl2
    have hL33 : (nums D).length ≤ 256 := by rw [hlenD]; exact hDl
    clear hW0 hc x0 x1 x2 x3 f2 f3 hat R1
    have hrest : ∀ (t0 t1 t2 t8 t9 t10 t11 t12 t13 t14 t15 t16 t17 t18 t19 t20 t21 t22 t23 t24 t25 t26 t27 t28 t29 t30 t31 t32 t33 t34 t35 t36 t37 t38 t39 t40 t41 t42 t43 t44 t45 t46 t47 t48 t49 t50 t51 t52 t53 t54 t55 t56 t57 t58 t59 t60 t61 t62 t63 t64 t65 t66 t67 t68 t69 t70 t71 t72 t73 t74 t75 t76 t77 t78 t79 t80 t81 t82 t83 t84 t85 t86 t87 t88 t89 t90 t91 t92 t93 t94 t95 t96 t97 t98 : Value) (D1 k1 : Nat) (W : World), Inv w.heap.size w1.heap.size a n vad vcap (E : Int) (nums D) k1 W → Below w.heap.size w W → W0.heap.size ≤ W.heap.size → W0.heap.size ≤ D1 → W.heap[D1]? = some (.deferred (some [])) → (E = 0 ∨ k1 = E) → k1 ≤ 256 → K { tmps := #[t0, t1, t2, .pointer (some ⟨w.heap.size + 1, 0, none⟩), .pointer (some ⟨w.heap.size + 1 + 1, 0, none⟩), .pointer (some ⟨w1.heap.size, 0, none⟩), .pointer (some ⟨w1.heap.size + 1 + 1, 0, none⟩), .pointer (some ⟨w1.heap.size + 1 + 1 + 1, 0, none⟩), t8, t9, t10, t11, t12, t13, t14, t15, t16, t17, t18, t19, t20, t21, t22, t23, t24, t25, t26, t27, t28, t29, t30, t31, t32, t33, t34, t35, t36, t37, t38, t39, t40, t41, t42, t43, t44, t45, t46, t47, t48, t49, t50, t51, t52, t53, t54, t55, t56, t57, t58, t59, t60, t61, t62, t63, t64, t65, t66, t67, t68, t69, t70, t71, t72, t73, t74, t75, t76, t77, t78, t79, t80, t81, t82, t83, t84, t85, t86, t87, t88, t89, t90, t91, t92, t93, t94, t95, t96, t97, t98], defers := [{ target := .collected D1, args := #[] }] } W := by
      intro t0 t1 t2 t8 t9 t10 t11 t12 t13 t14 t15 t16 t17 t18 t19 t20 t21 t22 t23 t24 t25 t26 t27 t28 t29 t30 t31 t32 t33 t34 t35 t36 t37 t38 t39 t40 t41 t42 t43 t44 t45 t46 t47 t48 t49 t50 t51 t52 t53 t54 t55 t56 t57 t58 t59 t60 t61 t62 t63 t64 t65 t66 t67 t68 t69 t70 t71 t72 t73 t74 t75 t76 t77 t78 t79 t80 t81 t82 t83 t84 t85 t86 t87 t88 t89 t90 t91 t92 t93 t94 t95 t96 t97 t98 D1 k1 W hI hb hz hD1 hK1 hEk hk33
      apply hKa
      have c3 := hI.early
      have c7 := hI.cnt
      have f7 := hI.cntF
      have c6 := hI.seq
      have n67 : ¬ w1.heap.size + 1 + 1 = w1.heap.size + 1 + 1 + 1 := by omega
      have hE33 : (E : Int) ≤ 256 := by omega
      by_cases hE0 : E = 0
      · have hE0' : (E : Int) = 0 := by omega
        rw [hE0'] at c3
        have HI : Hid (Inv w.heap.size w1.heap.size a n vad vcap (E : Int) (nums D) k1 W) := hI
        have HB : Hid (Below w.heap.size w W) := hb
        have HK1 : Hid (W.heap[D1]? = some (.deferred (some []))) := hK1
        clear hI hb hK1 hKa hE0' hE0 hEk
        go_wp2_with (fail)
        have hI := HI.out
        have hb := HB.out
        have hK1 := HK1.out
        obtain ⟨W3, hW3⟩ : ∃ W3, W.setCell ⟨w1.heap.size + 1 + 1 + 1, 0, none⟩ (.int .i64 0) = W3 := ⟨_, rfl⟩
        rw [hW3]
        have hI3 : Hid (Inv w.heap.size w1.heap.size a n vad vcap (E : Int) (nums D) 0 W3) := by
          show Inv _ _ _ _ _ _ _ _ _ _
          rw [← hW3]; exact hI.set hbc 0
        have hz3 : W3.heap.size = W.heap.size := by rw [← hW3]; simp [World.setCell]
        have hb3 : Hid (Below w.heap.size w W3) := by
          show Below _ _ _
          rw [← hW3]; exact hb.setCell (p := ⟨w1.heap.size + 1 + 1 + 1, 0, none⟩) (by show w.heap.size ≤ w1.heap.size + 1 + 1 + 1; omega) _
        have hD1l : D1 < W.heap.size := (Array.getElem?_eq_some_iff.1 hK1).1
        have hK3 : Hid (W3.heap[D1]? = some (.deferred (some []))) := by
          show _ = _
          rw [← hW3, Below.heap_setCell _ _ _ _ (by show D1 ≠ w1.heap.size + 1 + 1 + 1; omega)]; exact hK1
        clear hW3 hI hb hK1
        refine (wpIn_wide (n := 9)).1 ?_
        refine range_top 55 9 rfl (n₀ := w1.heap.size + 1 + 1) (by omega) (all_stops 8 (by decide) (w1.heap.size + 1) (w1.heap.size + 1 + 1) a n ha hn W3 (by omega) (by omega) hI3.out.pre0 hI3.out.pre1)
          (fun pre V => Inv w.heap.size w1.heap.size a n vad vcap (E : Int) (nums D) pre.length V ∧ Below w.heap.size w V ∧ (W3.heap.size ≤ V.heap.size ∧ V.heap[D1]? = some (.deferred (some [])) ∧ pre <+: D))
          (fun cc pre V => cc = .ret ∧ ¬ pre <+: D)
          ?hI (fun cc s A B row hs _ _ => hs) ?h0 ?assign ?body ?done ?stop
        case hI => exact OwnFrom.and (Own.from (Inv.own w.heap.size w1.heap.size a n vad vcap (E : Int) (nums D) (fun (pre : List Byx) => (pre.length : Int))) _) (OwnFrom.and (ownFrom_below (Nat.le_refl _) (by omega)) (fun s A B row hs hg hr => ⟨Nat.le_trans hs.1 hg.size, (hg.block D1 (Array.getElem?_eq_some_iff.1 hs.2.1).1 (fun e => by have := (hr D1 e.symm).1; omega)).trans hs.2.1, hs.2.2⟩))
        case h0 => exact ⟨hI3.out, hb3.out, Nat.le_refl _, hK3.out, List.nil_prefix⟩
        case assign =>
          intro l x V K2 hK2
          simp only [List.setIfInBounds_toArray, List.set_cons_succ, List.set_cons_zero] at hK2 ⊢
          gi_wp2
          exact hK2
        case stop =>
          rintro D2 cc pre V hD2 hpre ⟨rfl, hbad⟩ hK2
          exact absurd (by rw [HD.out]; exact hpre) hbad
        case body =>
          rintro l pre ⟨px, hpx⟩ V hl ⟨r, hr⟩ ⟨hIV, hbV, hzV, hKV, hpre⟩ hN2
          simp only [List.setIfInBounds_toArray, List.set_cons_succ, List.set_cons_zero]
          have hlD : pre.length < D.length := by rw [HD.out]; exact hN2
          have hklt : pre.length < (nums D).length := by rw [hlenD]; exact hlD
          have hnx := next_any (x := ⟨px, hpx⟩) hpre hlD
          generalize hQ : ownPostG _ _ _ _ _ _ = Q2
          refine body2 l (w1.heap.size + 1 + 1 + 1 + 1) r Q2 _ _ _ _ _ _ _ _ _ _ _ _ _ _ _ _ _ _ _ _ _ _ _ _ _ _ _ _ _ _ _ _ _ _ _ _ _ _ _ _ _ _ _ _ _ _ _ _ _ _ _ _ _ _ _ _ _ _ _ _ _ _ _ _ _ _ _ _ _ _ _ _ _ _ _ _ _ _ _ _ _ _ _ _ _ _ _ _ _ _ _ _ _ _ w.heap.size w1.heap.size a n vad vcap (E : Int) D pre.length px V ha hn HD.out hIV hklt hL33 hbc (by omega) (by omega) (by omega) hr ?_ ?_
          · intro hne a'
            rw [← hQ]
            exact ⟨(KeepsOthers.setCell _ _ _).from _, rfl, fun h => hne (hnx.1 h).symm⟩
          · intro heq a' V2 hI2 hb2 hk2
            rw [← hQ]
            exact ⟨⟨hk2.size, fun q o hB => hk2.same q o (by omega)⟩, hb2, by rw [List.length_append]; exact hI2, hbV.trans (hb2.mono (by omega)), Nat.le_trans hzV hk2.size, hk2.same D1 _ (by omega) hKV rfl, hnx.2 heq.symm⟩
        case done =>
          rintro D2 xs V hD2 hxs ⟨hIV, hbV, hzV, hKV, hpre⟩ hK2
          have hlx : (xs.length : Int) = ((nums D).length : Int) := by rw [hxs, ← HD.out, hlenD]
          rw [hlx] at hIV
          go_wp2_with (fail)
          refine (awakeM _).mono ?_
          rintro e w7 ⟨rfl, hb7⟩
          have hI7 := hIV.below hb7
          have c7 := hI7.cnt
          have c5 := hI7.want
          have c4 := hI7.ans
          have f4 := hI7.ansF
          have hb7w : Hid (Below w.heap.size w w7) := hbV.trans (hb7.mono hbV.size)
          have hD2V : D2 < V.heap.size := (Array.getElem?_eq_some_iff.1 hK2).1
          have hD1V : D1 < V.heap.size := (Array.getElem?_eq_some_iff.1 hKV).1
          have hK27 : Hid (w7.heap[D2]? = some (.deferred (some []))) := (hb7.block D2 hD2V).trans hK2
          have hK17 : Hid (w7.heap[D1]? = some (.deferred (some []))) := (hb7.block D1 hD1V).trans hKV
          generalize (nums D).length = NN at c7 c5
          clear hIV hbV hKV hK2 hb7 hI7 hlx hpre hxs hI3 hb3 hK3
          go_wp2
          have hK' := (KeepsOthers.setCell w7 ⟨w.heap.size + 1 + 1, 0, none⟩ (.bool true)).same D2 _ hK27.out rfl
          have hK'' := (KeepsOthers.setCell w7 ⟨w.heap.size + 1 + 1, 0, none⟩ (.bool true)).same D1 _ hK17.out rfl
          have hg8 := grownBy_putObj' (w7.setCell ⟨w.heap.size + 1 + 1, 0, none⟩ (.bool true)) D2 (.deferred none)
          have hK8 := (hg8.block D1 (Array.getElem?_eq_some_iff.1 hK'').1 (by intro e; have := Option.some.inj e; omega)).trans hK''
          refine ⟨by simp, .inl ⟨_, _, rfl, run_takeDeferred hK', ⟨by simp, .inl ⟨_, _, rfl, run_takeDeferred hK8, ?_⟩⟩⟩⟩
          have hc5 := cell_kept (World.cell?_setCell_same' w7 ⟨w.heap.size + 1 + 1, 0, none⟩ (.bool true) (by rw [c4]; rfl)) hg8 (fun r e => by cases e; exact ⟨_, hK', rfl⟩)
          have hc6 := cell_kept hc5 (grownBy_putObj' _ D1 (.deferred none)) (fun r e => by cases e; exact ⟨_, hK8, rfl⟩)
          refine ⟨.bool true, ?_, rfl, ((hb7w.out.setCell (p := ⟨w.heap.size + 1 + 1, 0, none⟩) (by show w.heap.size ≤ w.heap.size + 1 + 1; omega) _).trans (belowK_b (w := w) (Nat.le_refl _) _ D2 _ _ (by omega) hK' rfl rfl)).trans (belowK_b (w := w) (Nat.le_refl _) _ D1 _ _ (by omega) hK8 rfl rfl)⟩
          simp [results, Try.results4, go_sem, hc6]
      · obtain rfl : k1 = E := by omega
        have hE1 : (0 : Int) < (k1 : Int) := by omega
        have HI : Hid (Inv w.heap.size w1.heap.size a n vad vcap (k1 : Int) (nums D) k1 W) := hI
        have HB : Hid (Below w.heap.size w W) := hb
        have HK1 : Hid (W.heap[D1]? = some (.deferred (some []))) := hK1
        clear hI hb hK1 hKa hE0 hEk
        go_wp2_with (fail)
        have hI := HI.out
        have hb := HB.out
        have hK1 := HK1.out
        obtain ⟨W3, hW3⟩ : ∃ W3, W.setCell ⟨w1.heap.size + 1 + 1 + 1, 0, none⟩ (.int .i64 0) = W3 := ⟨_, rfl⟩
        rw [hW3]
        have hI3 : Hid (Inv w.heap.size w1.heap.size a n vad vcap (k1 : Int) (nums D) 0 W3) := by
          show Inv _ _ _ _ _ _ _ _ _ _
          rw [← hW3]; exact hI.set hbc 0
        have hz3 : W3.heap.size = W.heap.size := by rw [← hW3]; simp [World.setCell]
        have hb3 : Hid (Below w.heap.size w W3) := by
          show Below _ _ _
          rw [← hW3]; exact hb.setCell (p := ⟨w1.heap.size + 1 + 1 + 1, 0, none⟩) (by show w.heap.size ≤ w1.heap.size + 1 + 1 + 1; omega) _
        have hD1l : D1 < W.heap.size := (Array.getElem?_eq_some_iff.1 hK1).1
        have hK3 : Hid (W3.heap[D1]? = some (.deferred (some []))) := by
          show _ = _
          rw [← hW3, Below.heap_setCell _ _ _ _ (by show D1 ≠ w1.heap.size + 1 + 1 + 1; omega)]; exact hK1
        clear hW3 hI hb hK1
        refine (wpIn_wide (n := 9)).1 ?_
        refine range_top 55 9 rfl (n₀ := w1.heap.size + 1 + 1) (by omega) (all_stops 8 (by decide) (w1.heap.size + 1) (w1.heap.size + 1 + 1) a n ha hn W3 (by omega) (by omega) hI3.out.pre0 hI3.out.pre1)
          (fun pre V => Inv w.heap.size w1.heap.size a n vad vcap (k1 : Int) (nums D) pre.length V ∧ Below w.heap.size w V ∧ (W3.heap.size ≤ V.heap.size ∧ V.heap[D1]? = some (.deferred (some [])) ∧ pre <+: D))
          (fun cc pre V => cc = .ret ∧ ¬ pre <+: D)
          ?hI (fun cc s A B row hs _ _ => hs) ?h0 ?assign ?body ?done ?stop
        case hI => exact OwnFrom.and (Own.from (Inv.own w.heap.size w1.heap.size a n vad vcap (k1 : Int) (nums D) (fun (pre : List Byx) => (pre.length : Int))) _) (OwnFrom.and (ownFrom_below (Nat.le_refl _) (by omega)) (fun s A B row hs hg hr => ⟨Nat.le_trans hs.1 hg.size, (hg.block D1 (Array.getElem?_eq_some_iff.1 hs.2.1).1 (fun e => by have := (hr D1 e.symm).1; omega)).trans hs.2.1, hs.2.2⟩))
        case h0 => exact ⟨hI3.out, hb3.out, Nat.le_refl _, hK3.out, List.nil_prefix⟩
        case assign =>
          intro l x V K2 hK2
          simp only [List.setIfInBounds_toArray, List.set_cons_succ, List.set_cons_zero] at hK2 ⊢
          gi_wp2
          exact hK2
        case stop =>
          rintro D2 cc pre V hD2 hpre ⟨rfl, hbad⟩ hK2
          exact absurd (by rw [HD.out]; exact hpre) hbad
        case body =>
          rintro l pre ⟨px, hpx⟩ V hl ⟨r, hr⟩ ⟨hIV, hbV, hzV, hKV, hpre⟩ hN2
          simp only [List.setIfInBounds_toArray, List.set_cons_succ, List.set_cons_zero]
          have hlD : pre.length < D.length := by rw [HD.out]; exact hN2
          have hklt : pre.length < (nums D).length := by rw [hlenD]; exact hlD
          have hnx := next_any (x := ⟨px, hpx⟩) hpre hlD
          generalize hQ : ownPostG _ _ _ _ _ _ = Q2
          refine body2 l (w1.heap.size + 1 + 1 + 1 + 1) r Q2 _ _ _ _ _ _ _ _ _ _ _ _ _ _ _ _ _ _ _ _ _ _ _ _ _ _ _ _ _ _ _ _ _ _ _ _ _ _ _ _ _ _ _ _ _ _ _ _ _ _ _ _ _ _ _ _ _ _ _ _ _ _ _ _ _ _ _ _ _ _ _ _ _ _ _ _ _ _ _ _ _ _ _ _ _ _ _ _ _ _ _ _ _ _ w.heap.size w1.heap.size a n vad vcap (k1 : Int) D pre.length px V ha hn HD.out hIV hklt hL33 hbc (by omega) (by omega) (by omega) hr ?_ ?_
          · intro hne a'
            rw [← hQ]
            exact ⟨(KeepsOthers.setCell _ _ _).from _, rfl, fun h => hne (hnx.1 h).symm⟩
          · intro heq a' V2 hI2 hb2 hk2
            rw [← hQ]
            exact ⟨⟨hk2.size, fun q o hB => hk2.same q o (by omega)⟩, hb2, by rw [List.length_append]; exact hI2, hbV.trans (hb2.mono (by omega)), Nat.le_trans hzV hk2.size, hk2.same D1 _ (by omega) hKV rfl, hnx.2 heq.symm⟩
        case done =>
          rintro D2 xs V hD2 hxs ⟨hIV, hbV, hzV, hKV, hpre⟩ hK2
          have hlx : (xs.length : Int) = ((nums D).length : Int) := by rw [hxs, ← HD.out, hlenD]
          rw [hlx] at hIV
          go_wp2_with (fail)
          refine (awakeM _).mono ?_
          rintro e w7 ⟨rfl, hb7⟩
          have hI7 := hIV.below hb7
          have c7 := hI7.cnt
          have c5 := hI7.want
          have c4 := hI7.ans
          have f4 := hI7.ansF
          have hb7w : Hid (Below w.heap.size w w7) := hbV.trans (hb7.mono hbV.size)
          have hD2V : D2 < V.heap.size := (Array.getElem?_eq_some_iff.1 hK2).1
          have hD1V : D1 < V.heap.size := (Array.getElem?_eq_some_iff.1 hKV).1
          have hK27 : Hid (w7.heap[D2]? = some (.deferred (some []))) := (hb7.block D2 hD2V).trans hK2
          have hK17 : Hid (w7.heap[D1]? = some (.deferred (some []))) := (hb7.block D1 hD1V).trans hKV
          generalize (nums D).length = NN at c7 c5
          clear hIV hbV hKV hK2 hb7 hI7 hlx hpre hxs hI3 hb3 hK3
          go_wp2
          have hK' := (KeepsOthers.setCell w7 ⟨w.heap.size + 1 + 1, 0, none⟩ (.bool true)).same D2 _ hK27.out rfl
          have hK'' := (KeepsOthers.setCell w7 ⟨w.heap.size + 1 + 1, 0, none⟩ (.bool true)).same D1 _ hK17.out rfl
          have hg8 := grownBy_putObj' (w7.setCell ⟨w.heap.size + 1 + 1, 0, none⟩ (.bool true)) D2 (.deferred none)
          have hK8 := (hg8.block D1 (Array.getElem?_eq_some_iff.1 hK'').1 (by intro e; have := Option.some.inj e; omega)).trans hK''
          refine ⟨by simp, .inl ⟨_, _, rfl, run_takeDeferred hK', ⟨by simp, .inl ⟨_, _, rfl, run_takeDeferred hK8, ?_⟩⟩⟩⟩
          have hc5 := cell_kept (World.cell?_setCell_same' w7 ⟨w.heap.size + 1 + 1, 0, none⟩ (.bool true) (by rw [c4]; rfl)) hg8 (fun r e => by cases e; exact ⟨_, hK', rfl⟩)
          have hc6 := cell_kept hc5 (grownBy_putObj' _ D1 (.deferred none)) (fun r e => by cases e; exact ⟨_, hK8, rfl⟩)
          refine ⟨.bool true, ?_, rfl, ((hb7w.out.setCell (p := ⟨w.heap.size + 1 + 1, 0, none⟩) (by show w.heap.size ≤ w.heap.size + 1 + 1; omega) _).trans (belowK_b (w := w) (Nat.le_refl _) _ D2 _ _ (by omega) hK' rfl rfl)).trans (belowK_b (w := w) (Nat.le_refl _) _ D1 _ _ (by omega) hK8 rfl rfl)⟩
          simp [results, Try.results4, go_sem, hc6]
    refine (wpIn_wide (n := 9)).1 ?_
    refine range_top 29 8 rfl (n₀ := w1.heap.size + 1 + 1) (by omega) (all_stops 8 (by decide) (w1.heap.size + 1) (w1.heap.size + 1 + 1) a n ha hn W0 (by omega) (by omega) hInv.out.pre0 hInv.out.pre1)
      (fun pre V => Inv w.heap.size w1.heap.size a n vad vcap (E : Int) (nums D) pre.length V ∧ Below w.heap.size w V ∧ (W0.heap.size ≤ V.heap.size ∧ pre <+: D ∧ (E = 0 ∨ pre.length < E)))
      (fun cc pre V => (cc = .ret ∧ ¬ pre <+: D) ∨ (cc = .exit 0 ∧ Inv w.heap.size w1.heap.size a n vad vcap (E : Int) (nums D) pre.length V ∧ Below w.heap.size w V ∧ (W0.heap.size ≤ V.heap.size ∧ pre <+: D ∧ pre.length = E)))
      ?hI ?hIx ?h0 ?assign ?body ?done ?stop
    case hI => exact OwnFrom.and (Own.from (Inv.own w.heap.size w1.heap.size a n vad vcap (E : Int) (nums D) (fun (pre : List Byx) => (pre.length : Int))) _) (OwnFrom.and (ownFrom_below (Nat.le_refl _) (by omega)) (fun s A B row hs hg _ => ⟨Nat.le_trans hs.1 hg.size, hs.2⟩))
    case hIx =>
      intro cc s A B row hs hg hr
      rcases hs with hs | ⟨e, hs⟩
      · exact .inl hs
      · have own1 : OwnFrom W0.heap.size (fun (pre : List Byx) V => Inv w.heap.size w1.heap.size a n vad vcap (E : Int) (nums D) pre.length V ∧ Below w.heap.size w V ∧ (W0.heap.size ≤ V.heap.size ∧ pre <+: D ∧ pre.length = E)) :=
          OwnFrom.and (Own.from (Inv.own w.heap.size w1.heap.size a n vad vcap (E : Int) (nums D) (fun (pre : List Byx) => (pre.length : Int))) _) (OwnFrom.and (ownFrom_below (Nat.le_refl _) (by omega)) (fun s A B row hs hg _ => ⟨Nat.le_trans hs.1 hg.size, hs.2⟩))
        exact .inr ⟨e, own1 s A B row hs hg hr⟩
    case h0 => exact ⟨hInv.out, hB0.out, Nat.le_refl _, List.nil_prefix, by simp; omega⟩
    case assign =>
      intro l x V K2 hK2
      simp only [List.setIfInBounds_toArray, List.set_cons_succ, List.set_cons_zero] at hK2 ⊢
      gi_wp2
      exact hK2
    case body =>
      rintro l pre ⟨px, hpx⟩ V hl hr ⟨hIV, hbV, hzV, hpre, hpE⟩ hN2
      simp only [List.setIfInBounds_toArray, List.set_cons_succ, List.set_cons_zero]
      have hlD : pre.length < D.length := by rw [HD.out]; exact hN2
      have hklt : pre.length < (nums D).length := by rw [hlenD]; exact hlD
      have hnx := next_any (x := ⟨px, hpx⟩) hpre hlD
      generalize hQ : ownPostG _ _ _ _ _ _ = Q2
      refine body1 l Q2 _ _ _ _ _ _ _ _ _ _ _ _ _ _ _ _ _ _ _ _ _ _ _ _ _ _ _ _ _ _ _ _ _ _ _ _ _ _ _ _ _ _ _ _ _ _ _ _ _ _ _ _ _ _ _ _ _ _ _ _ _ _ _ _ _ _ _ _ _ _ _ _ _ _ _ _ _ _ _ _ _ _ _ _ _ _ _ _ _ _ _ _ _ _ w.heap.size w1.heap.size a n vad vcap E (nums D) pre.length px V hIV hklt hL33 (by omega) hbc ?_ ?_ ?_
      · intro hne a'
        rw [← hQ]
        exact ⟨(KeepsOthers.setCell _ _ _).from _, .inl ⟨rfl, fun h => hne (hnx.1 h).symm⟩⟩
      · intro heq hkE a'
        rw [← hQ]
        refine ⟨(KeepsOthers.setCell _ _ _).from _, .inr ⟨rfl, ?_, hbV.setCell (by show w.heap.size ≤ w1.heap.size + 1 + 1 + 1; omega) _, ?_, hnx.2 heq.symm, by rw [List.length_append]; exact hkE⟩⟩
        · rw [List.length_append]; exact hIV.set hbc _
        · simp [World.setCell]; omega
      · intro heq hkE a'
        rw [← hQ]
        refine ⟨(KeepsOthers.setCell _ _ _).from _, (Below.refl _ V).setCell (by show w1.heap.size + 1 + 1 ≤ w1.heap.size + 1 + 1 + 1; omega) _, ?_, hbV.setCell (by show w.heap.size ≤ w1.heap.size + 1 + 1 + 1; omega) _, ?_, hnx.2 heq.symm, ?_⟩
        · rw [List.length_append]; exact hIV.set hbc _
        · simp [World.setCell]; omega
        · rw [List.length_append]; show E = 0 ∨ pre.length + 1 < E; omega
    case done =>
      rintro D1 xs V hD1 hxs ⟨hIV, hbV, hzV, hpre, hpE⟩ hK1
      have hlx : xs.length = D.length := by rw [hxs, ← HD.out]
      exact hrest _ _ _ _ _ _ _ _ _ _ _ _ _ _ _ _ _ _ _ _ _ _ _ _ _ _ _ _ _ _ _ _ _ _ _ _ _ _ _ _ _ _ _ _ _ _ _ _ _ _ _ _ _ _ _ _ _ _ _ _ _ _ _ _ _ _ _ _ _ _ _ _ _ _ _ _ _ _ _ _ _ _ _ _ _ _ _ _ _ _ _ _ _ _ D1 xs.length V hIV hbV hzV hD1 hK1 (by omega) (by omega)
    case stop =>
      rintro D1 cc pre V hD1 hpre hIxx hK1
      rcases hIxx with ⟨rfl, hbad⟩ | ⟨rfl, hIV, hbV, hzV, hpre2, hpE⟩
      · exact absurd (by rw [HD.out]; exact hpre) hbad
      · gi_wp2
        exact hrest _ _ _ _ _ _ _ _ _ _ _ _ _ _ _ _ _ _ _ _ _ _ _ _ _ _ _ _ _ _ _ _ _ _ _ _ _ _ _ _ _ _ _ _ _ _ _ _ _ _ _ _ _ _ _ _ _ _ _ _ _ _ _ _ _ _ _ _ _ _ _ _ _ _ _ _ _ _ _ _ _ _ _ _ _ _ _ _ _ _ _ _ _ _ D1 pre.length V hIV hbV hzV hD1 hK1 (by omega) (by omega)
  · go_wp2_with (fail)
    rename_i K hKa
    obtain ⟨E, hE, hEl⟩ : ∃ E : Nat, early % ((D.length : Int) + 1) = (E : Int) ∧ E ≤ D.length := by
      have h2 := Int.emod_nonneg early (show ((D.length : Int) + 1) ≠ 0 by omega)
      have h3 := Int.emod_lt_of_pos early (show (0 : Int) < (D.length : Int) + 1 by omega)
      exact ⟨(early % ((D.length : Int) + 1)).toNat, by omega, by omega⟩
    rw [hE]
    clear hE
    obtain ⟨W0, hW0⟩ : ∃ W0, ((((w1.setCell ⟨w.heap.size + 1, 0, none⟩ (.int .i64 (E : Int))).alloc (.cells #[.slice vad D.length vcap] 29)).alloc (.cells #[.int .u8 a, .int .u8 n] 23)).alloc (.cells #[.func (.func 30) #[] #[.pointer (some ⟨w1.heap.size + 1, 0, none⟩)]] 32)).alloc (.cells #[.int .i64 0] 3) = W0 := ⟨_, rfl⟩
    rw [hW0]
    have hz0 : W0.heap.size = w1.heap.size + 1 + 1 + 1 + 1 := by rw [← hW0]; simp [World.setCell]
    have hc : ∀ (B i : Nat) (v : Value), B ≠ w.heap.size + 1 → w1.cell? ⟨B, i, none⟩ = some v → W0.cell? ⟨B, i, none⟩ = some v := by
      intro B i v hB h
      rw [← hW0]
      exact cell_allocB (cell_allocB (cell_allocB (cell_allocB ((World.cell?_of_block (a := ⟨B, i, none⟩) (Below.heap_setCell _ _ _ B hB)).trans h))))
    have hInv : Hid (Inv w.heap.size w1.heap.size a n vad vcap (E : Int) (nums D) 0 W0) := by
      refine ⟨?_, hc _ _ _ (by omega) x3, ?_, ?_, ?_, ?_, ?_, ?_, ?_, ?_⟩
      · rw [← hW0]; exact cell_allocB (cell_allocB (cell_allocB (cell_allocB (World.cell?_setCell_same' _ ⟨w.heap.size + 1, 0, none⟩ _ (by rw [x2]; rfl)))))
      · rw [← hW0]
        have cS : (w1.setCell ⟨w.heap.size + 1, 0, none⟩ (.int .i64 (E : Int))).cell? ⟨w.heap.size + 1 + 1, 0, none⟩ = some (.bool false) := (World.cell?_of_block (a := ⟨w.heap.size + 1 + 1, 0, none⟩) (Below.heap_setCell _ ⟨w.heap.size + 1, 0, none⟩ _ (w.heap.size + 1 + 1) (by show w.heap.size + 1 + 1 ≠ w.heap.size + 1; omega))).trans x3
        have fS : (w1.setCell ⟨w.heap.size + 1, 0, none⟩ (.int .i64 (E : Int))).frozen? ⟨w.heap.size + 1 + 1, 0, none⟩ = false := by rw [World.frozen?_setCell]; exact f3
        exact frozen_alloc (cell_allocB (cell_allocB (cell_allocB cS))) (frozen_alloc (cell_allocB (cell_allocB cS)) (frozen_alloc (cell_allocB cS) (frozen_alloc cS fS)))
      · rw [← hW0, hlenD]; simp [go_sem, World.setCell]
      · rw [← hW0]; simp [go_sem, World.setCell]
      · rw [← hW0]; simp [go_sem, World.setCell]
      · rw [← hW0]; simp [go_sem, World.setCell]
      · rw [← hW0]; simp [go_sem, World.setCell]
      · rw [← hW0]; simp [go_sem, World.setCell]
      · intro h0
        obtain ⟨g, e, e1, e2, e3⟩ := hat h0
        exact ⟨g, e, e2, by omega, fun j hj => hc _ _ _ (by omega) (e3 j hj)⟩
    have hB0 : Hid (Below w.heap.size w W0) := by
      show Below _ _ _
      rw [← hW0]
      exact ((((B1.out.setCell (p := ⟨w.heap.size + 1, 0, none⟩) (by show w.heap.size ≤ w.heap.size + 1; omega) _).alloc (by first | omega | (simp [World.setCell]; done) | (simp [World.setCell]; omega)) _).alloc (by first | omega | (simp [World.setCell]; done) | (simp [World.setCell]; omega)) _).alloc (by first | omega | (simp [World.setCell]; done) | (simp [World.setCell]; omega)) _).alloc (by first | omega | (simp [World.setCell]; done) | (simp [World.setCell]; omega)) _
    have hbc : w.heap.size + 1 + 1 < w1.heap.size := hl2
    have hL33 : (nums D).length ≤ 256 := by rw [hlenD]; exact hDl
    clear hW0 hc x0 x1 x2 x3 f2 f3 hat R1
    have hrest : ∀ (t0 t1 t2 t8 t9 t10 t11 t12 t13 t14 t15 t16 t17 t18 t19 t20 t21 t22 t23 t24 t25 t26 t27 t28 t29 t30 t31 t32 t33 t34 t35 t36 t37 t38 t39 t40 t41 t42 t43 t44 t45 t46 t47 t48 t49 t50 t51 t52 t53 t54 t55 t56 t57 t58 t59 t60 t61 t62 t63 t64 t65 t66 t67 t68 t69 t70 t71 t72 t73 t74 t75 t76 t77 t78 t79 t80 t81 t82 t83 t84 t85 t86 t87 t88 t89 t90 t91 t92 t93 t94 t95 t96 t97 t98 : Value) (D1 k1 : Nat) (W : World), Inv w.heap.size w1.heap.size a n vad vcap (E : Int) (nums D) k1 W → Below w.heap.size w W → W0.heap.size ≤ W.heap.size → W0.heap.size ≤ D1 → W.heap[D1]? = some (.deferred (some [])) → (E = 0 ∨ k1 = E) → k1 ≤ 256 → K { tmps := #[t0, t1, t2, .pointer (some ⟨w.heap.size + 1, 0, none⟩), .pointer (some ⟨w.heap.size + 1 + 1, 0, none⟩), .pointer (some ⟨w1.heap.size, 0, none⟩), .pointer (some ⟨w1.heap.size + 1 + 1, 0, none⟩), .pointer (some ⟨w1.heap.size + 1 + 1 + 1, 0, none⟩), t8, t9, t10, t11, t12, t13, t14, t15, t16, t17, t18, t19, t20, t21, t22, t23, t24, t25, t26, t27, t28, t29, t30, t31, t32, t33, t34, t35, t36, t37, t38, t39, t40, t41, t42, t43, t44, t45, t46, t47, t48, t49, t50, t51, t52, t53, t54, t55, t56, t57, t58, t59, t60, t61, t62, t63, t64, t65, t66, t67, t68, t69, t70, t71, t72, t73, t74, t75, t76, t77, t78, t79, t80, t81, t82, t83, t84, t85, t86, t87, t88, t89, t90, t91, t92, t93, t94, t95, t96, t97, t98], defers := [{ target := .collected D1, args := #[] }] } W := by
      intro t0 t1 t2 t8 t9 t10 t11 t12 t13 t14 t15 t16 t17 t18 t19 t20 t21 t22 t23 t24 t25 t26 t27 t28 t29 t30 t31 t32 t33 t34 t35 t36 t37 t38 t39 t40 t41 t42 t43 t44 t45 t46 t47 t48 t49 t50 t51 t52 t53 t54 t55 t56 t57 t58 t59 t60 t61 t62 t63 t64 t65 t66 t67 t68 t69 t70 t71 t72 t73 t74 t75 t76 t77 t78 t79 t80 t81 t82 t83 t84 t85 t86 t87 t88 t89 t90 t91 t92 t93 t94 t95 t96 t97 t98 D1 k1 W hI hb hz hD1 hK1 hEk hk33
      apply hKa
      have c3 := hI.early
      have c7 := hI.cnt
      have f7 := hI.cntF
      have c6 := hI.seq
      have n67 : ¬ w1.heap.size + 1 + 1 = w1.heap.size + 1 + 1 + 1 := by omega
      have hE33 : (E : Int) ≤ 256 := by omega
      by_cases hE0 : E = 0
      · have hE0' : (E : Int) = 0 := by omega
        rw [hE0'] at c3
        have HI : Hid (Inv w.heap.size w1.heap.size a n vad vcap (E : Int) (nums D) k1 W) := hI
        have HB : Hid (Below w.heap.size w W) := hb
        have HK1 : Hid (W.heap[D1]? = some (.deferred (some []))) := hK1
        clear hI hb hK1 hKa hE0' hE0 hEk
        go_wp2_with (fail)
        have hI := HI.out
        have hb := HB.out
        have hK1 := HK1.out
        obtain ⟨W3, hW3⟩ : ∃ W3, W.setCell ⟨w1.heap.size + 1 + 1 + 1, 0, none⟩ (.int .i64 0) = W3 := ⟨_, rfl⟩
        rw [hW3]
        have hI3 : Hid (Inv w.heap.size w1.heap.size a n vad vcap (E : Int) (nums D) 0 W3) := by
          show Inv _ _ _ _ _ _ _ _ _ _
          rw [← hW3]; exact hI.set hbc 0
        have hz3 : W3.heap.size = W.heap.size := by rw [← hW3]; simp [World.setCell]
        have hb3 : Hid (Below w.heap.size w W3) := by
          show Below _ _ _
          rw [← hW3]; exact hb.setCell (p := ⟨w1.heap.size + 1 + 1 + 1, 0, none⟩) (by show w.heap.size ≤ w1.heap.size + 1 + 1 + 1; omega) _
        have hD1l : D1 < W.heap.size := (Array.getElem?_eq_some_iff.1 hK1).1
        have hK3 : Hid (W3.heap[D1]? = some (.deferred (some []))) := by
          show _ = _
          rw [← hW3, Below.heap_setCell _ _ _ _ (by show D1 ≠ w1.heap.size + 1 + 1 + 1; omega)]; exact hK1
        clear hW3 hI hb hK1
        refine (wpIn_wide (n := 9)).1 ?_
        refine range_top 55 9 rfl (n₀ := w1.heap.size + 1 + 1) (by omega) (all_stops 8 (by decide) (w1.heap.size + 1) (w1.heap.size + 1 + 1) a n ha hn W3 (by omega) (by omega) hI3.out.pre0 hI3.out.pre1)
          (fun pre V => Inv w.heap.size w1.heap.size a n vad vcap (E : Int) (nums D) pre.length V ∧ Below w.heap.size w V ∧ (W3.heap.size ≤ V.heap.size ∧ V.heap[D1]? = some (.deferred (some [])) ∧ pre <+: D))
          (fun cc pre V => cc = .ret ∧ ¬ pre <+: D)
          ?hI (fun cc s A B row hs _ _ => hs) ?h0 ?assign ?body ?done ?stop
        case hI => exact OwnFrom.and (Own.from (Inv.own w.heap.size w1.heap.size a n vad vcap (E : Int) (nums D) (fun (pre : List Byx) => (pre.length : Int))) _) (OwnFrom.and (ownFrom_below (Nat.le_refl _) (by omega)) (fun s A B row hs hg hr => ⟨Nat.le_trans hs.1 hg.size, (hg.block D1 (Array.getElem?_eq_some_iff.1 hs.2.1).1 (fun e => by have := (hr D1 e.symm).1; omega)).trans hs.2.1, hs.2.2⟩))
        case h0 => exact ⟨hI3.out, hb3.out, Nat.le_refl _, hK3.out, List.nil_prefix⟩
        case assign =>
          intro l x V K2 hK2
          simp only [List.setIfInBounds_toArray, List.set_cons_succ, List.set_cons_zero] at hK2 ⊢
          gi_wp2
          exact hK2
        case stop =>
          rintro D2 cc pre V hD2 hpre ⟨rfl, hbad⟩ hK2
          exact absurd (by rw [HD.out]; exact hpre) hbad
        case body =>
          rintro l pre ⟨px, hpx⟩ V hl ⟨r, hr⟩ ⟨hIV, hbV, hzV, hKV, hpre⟩ hN2
          simp only [List.setIfInBounds_toArray, List.set_cons_succ, List.set_cons_zero]
          have hlD : pre.length < D.length := by rw [HD.out]; exact hN2
          have hklt : pre.length < (nums D).length := by rw [hlenD]; exact hlD
          have hnx := next_any (x := ⟨px, hpx⟩) hpre hlD
          generalize hQ : ownPostG _ _ _ _ _ _ = Q2
          refine body2 l (w1.heap.size + 1 + 1 + 1 + 1) r Q2 _ _ _ _ _ _ _ _ _ _ _ _ _ _ _ _ _ _ _ _ _ _ _ _ _ _ _ _ _ _ _ _ _ _ _ _ _ _ _ _ _ _ _ _ _ _ _ _ _ _ _ _ _ _ _ _ _ _ _ _ _ _ _ _ _ _ _ _ _ _ _ _ _ _ _ _ _ _ _ _ _ _ _ _ _ _ _ _ _ _ _ _ _ _ w.heap.size w1.heap.size a n vad vcap (E : Int) D pre.length px V ha hn HD.out hIV hklt hL33 hbc (by omega) (by omega) (by omega) hr ?_ ?_
          · intro hne a'
            rw [← hQ]
            exact ⟨(KeepsOthers.setCell _ _ _).from _, rfl, fun h => hne (hnx.1 h).symm⟩
          · intro heq a' V2 hI2 hb2 hk2
            rw [← hQ]
            exact ⟨⟨hk2.size, fun q o hB => hk2.same q o (by omega)⟩, hb2, by rw [List.length_append]; exact hI2, hbV.trans (hb2.mono (by omega)), Nat.le_trans hzV hk2.size, hk2.same D1 _ (by omega) hKV rfl, hnx.2 heq.symm⟩
        case done =>
          rintro D2 xs V hD2 hxs ⟨hIV, hbV, hzV, hKV, hpre⟩ hK2
          have hlx : (xs.length : Int) = ((nums D).length : Int) := by rw [hxs, ← HD.out, hlenD]
          rw [hlx] at hIV
          go_wp2_with (fail)
          refine (awakeM _).mono ?_
          rintro e w7 ⟨rfl, hb7⟩
          have hI7 := hIV.below hb7
          have c7 := hI7.cnt
          have c5 := hI7.want
          have c4 := hI7.ans
          have f4 := hI7.ansF
          have hb7w : Hid (Below w.heap.size w w7) := hbV.trans (hb7.mono hbV.size)
          have hD2V : D2 < V.heap.size := (Array.getElem?_eq_some_iff.1 hK2).1
          have hD1V : D1 < V.heap.size := (Array.getElem?_eq_some_iff.1 hKV).1
          have hK27 : Hid (w7.heap[D2]? = some (.deferred (some []))) := (hb7.block D2 hD2V).trans hK2
          have hK17 : Hid (w7.heap[D1]? = some (.deferred (some []))) := (hb7.block D1 hD1V).trans hKV
          generalize (nums D).length = NN at c7 c5
          clear hIV hbV hKV hK2 hb7 hI7 hlx hpre hxs hI3 hb3 hK3
          go_wp2
          have hK' := (KeepsOthers.setCell w7 ⟨w.heap.size + 1 + 1, 0, none⟩ (.bool true)).same D2 _ hK27.out rfl
          have hK'' := (KeepsOthers.setCell w7 ⟨w.heap.size + 1 + 1, 0, none⟩ (.bool true)).same D1 _ hK17.out rfl
          have hg8 := grownBy_putObj' (w7.setCell ⟨w.heap.size + 1 + 1, 0, none⟩ (.bool true)) D2 (.deferred none)
          have hK8 := (hg8.block D1 (Array.getElem?_eq_some_iff.1 hK'').1 (by intro e; have := Option.some.inj e; omega)).trans hK''
          refine ⟨by simp, .inl ⟨_, _, rfl, run_takeDeferred hK', ⟨by simp, .inl ⟨_, _, rfl, run_takeDeferred hK8, ?_⟩⟩⟩⟩
          have hc5 := cell_kept (World.cell?_setCell_same' w7 ⟨w.heap.size + 1 + 1, 0, none⟩ (.bool true) (by rw [c4]; rfl)) hg8 (fun r e => by cases e; exact ⟨_, hK', rfl⟩)
          have hc6 := cell_kept hc5 (grownBy_putObj' _ D1 (.deferred none)) (fun r e => by cases e; exact ⟨_, hK8, rfl⟩)
          refine ⟨.bool true, ?_, rfl, ((hb7w.out.setCell (p := ⟨w.heap.size + 1 + 1, 0, none⟩) (by show w.heap.size ≤ w.heap.size + 1 + 1; omega) _).trans (belowK_b (w := w) (Nat.le_refl _) _ D2 _ _ (by omega) hK' rfl rfl)).trans (belowK_b (w := w) (Nat.le_refl _) _ D1 _ _ (by omega) hK8 rfl rfl)⟩
          simp [results, Try.results4, go_sem, hc6]
      · obtain rfl : k1 = E := by omega
        have hE1 : (0 : Int) < (k1 : Int) := by omega
        have HI : Hid (Inv w.heap.size w1.heap.size a n vad vcap (k1 : Int) (nums D) k1 W) := hI
        have HB : Hid (Below w.heap.size w W) := hb
        have HK1 : Hid (W.heap[D1]? = some (.deferred (some []))) := hK1
        clear hI hb hK1 hKa hE0 hEk
        go_wp2_with (fail)
        have hI := HI.out
        have hb := HB.out
        have hK1 := HK1.out
        obtain ⟨W3, hW3⟩ : ∃ W3, W.setCell ⟨w1.heap.size + 1 + 1 + 1, 0, none⟩ (.int .i64 0) = W3 := ⟨_, rfl⟩
        rw [hW3]
        have hI3 : Hid (Inv w.heap.size w1.heap.size a n vad vcap (k1 : Int) (nums D) 0 W3) := by
          show Inv _ _ _ _ _ _ _ _ _ _
          rw [← hW3]; exact hI.set hbc 0
        have hz3 : W3.heap.size = W.heap.size := by rw [← hW3]; simp [World.setCell]
        have hb3 : Hid (Below w.heap.size w W3) := by
          show Below _ _ _
          rw [← hW3]; exact hb.setCell (p := ⟨w1.heap.size + 1 + 1 + 1, 0, none⟩) (by show w.heap.size ≤ w1.heap.size + 1 + 1 + 1; omega) _
        have hD1l : D1 < W.heap.size := (Array.getElem?_eq_some_iff.1 hK1).1
        have hK3 : Hid (W3.heap[D1]? = some (.deferred (some []))) := by
          show _ = _
          rw [← hW3, Below.heap_setCell _ _ _ _ (by show D1 ≠ w1.heap.size + 1 + 1 + 1; omega)]; exact hK1
        clear hW3 hI hb hK1
        refine (wpIn_wide (n := 9)).1 ?_
        refine range_top 55 9 rfl (n₀ := w1.heap.size + 1 + 1) (by omega) (all_stops 8 (by decide) (w1.heap.size + 1) (w1.heap.size + 1 + 1) a n ha hn W3 (by omega) (by omega) hI3.out.pre0 hI3.out.pre1)
          (fun pre V => Inv w.heap.size w1.heap.size a n vad vcap (k1 : Int) (nums D) pre.length V ∧ Below w.heap.size w V ∧ (W3.heap.size ≤ V.heap.size ∧ V.heap[D1]? = some (.deferred (some [])) ∧ pre <+: D))
          (fun cc pre V => cc = .ret ∧ ¬ pre <+: D)
          ?hI (fun cc s A B row hs _ _ => hs) ?h0 ?assign ?body ?done ?stop
        case hI => exact OwnFrom.and (Own.from (Inv.own w.heap.size w1.heap.size a n vad vcap (k1 : Int) (nums D) (fun (pre : List Byx) => (pre.length : Int))) _) (OwnFrom.and (ownFrom_below (Nat.le_refl _) (by omega)) (fun s A B row hs hg hr => ⟨Nat.le_trans hs.1 hg.size, (hg.block D1 (Array.getElem?_eq_some_iff.1 hs.2.1).1 (fun e => by have := (hr D1 e.symm).1; omega)).trans hs.2.1, hs.2.2⟩))
        case h0 => exact ⟨hI3.out, hb3.out, Nat.le_refl _, hK3.out, List.nil_prefix⟩
        case assign =>
          intro l x V K2 hK2
          simp only [List.setIfInBounds_toArray, List.set_cons_succ, List.set_cons_zero] at hK2 ⊢
          gi_wp2
          exact hK2
        case stop =>
          rintro D2 cc pre V hD2 hpre ⟨rfl, hbad⟩ hK2
          exact absurd (by rw [HD.out]; exact hpre) hbad
        case body =>
          rintro l pre ⟨px, hpx⟩ V hl ⟨r, hr⟩ ⟨hIV, hbV, hzV, hKV, hpre⟩ hN2
          simp only [List.setIfInBounds_toArray, List.set_cons_succ, List.set_cons_zero]
          have hlD : pre.length < D.length := by rw [HD.out]; exact hN2
          have hklt : pre.length < (nums D).length := by rw [hlenD]; exact hlD
          have hnx := next_any (x := ⟨px, hpx⟩) hpre hlD
          generalize hQ : ownPostG _ _ _ _ _ _ = Q2
          refine body2 l (w1.heap.size + 1 + 1 + 1 + 1) r Q2 _ _ _ _ _ _ _ _ _ _ _ _ _ _ _ _ _ _ _ _ _ _ _ _ _ _ _ _ _ _ _ _ _ _ _ _ _ _ _ _ _ _ _ _ _ _ _ _ _ _ _ _ _ _ _ _ _ _ _ _ _ _ _ _ _ _ _ _ _ _ _ _ _ _ _ _ _ _ _ _ _ _ _ _ _ _ _ _ _ _ _ _ _ _ w.heap.size w1.heap.size a n vad vcap (k1 : Int) D pre.length px V ha hn HD.out hIV hklt hL33 hbc (by omega) (by omega) (by omega) hr ?_ ?_
          · intro hne a'
            rw [← hQ]
            exact ⟨(KeepsOthers.setCell _ _ _).from _, rfl, fun h => hne (hnx.1 h).symm⟩
          · intro heq a' V2 hI2 hb2 hk2
            rw [← hQ]
            exact ⟨⟨hk2.size, fun q o hB => hk2.same q o (by omega)⟩, hb2, by rw [List.length_append]; exact hI2, hbV.trans (hb2.mono (by omega)), Nat.le_trans hzV hk2.size, hk2.same D1 _ (by omega) hKV rfl, hnx.2 heq.symm⟩
        case done =>
          rintro D2 xs V hD2 hxs ⟨hIV, hbV, hzV, hKV, hpre⟩ hK2
          have hlx : (xs.length : Int) = ((nums D).length : Int) := by rw [hxs, ← HD.out, hlenD]
          rw [hlx] at hIV
          go_wp2_with (fail)
          refine (awakeM _).mono ?_
          rintro e w7 ⟨rfl, hb7⟩
          have hI7 := hIV.below hb7
          have c7 := hI7.cnt
          have c5 := hI7.want
          have c4 := hI7.ans
          have f4 := hI7.ansF
          have hb7w : Hid (Below w.heap.size w w7) := hbV.trans (hb7.mono hbV.size)
          have hD2V : D2 < V.heap.size := (Array.getElem?_eq_some_iff.1 hK2).1
          have hD1V : D1 < V.heap.size := (Array.getElem?_eq_some_iff.1 hKV).1
          have hK27 : Hid (w7.heap[D2]? = some (.deferred (some []))) := (hb7.block D2 hD2V).trans hK2
          have hK17 : Hid (w7.heap[D1]? = some (.deferred (some []))) := (hb7.block D1 hD1V).trans hKV
          generalize (nums D).length = NN at c7 c5
          clear hIV hbV hKV hK2 hb7 hI7 hlx hpre hxs hI3 hb3 hK3
          go_wp2
          have hK' := (KeepsOthers.setCell w7 ⟨w.heap.size + 1 + 1, 0, none⟩ (.bool true)).same D2 _ hK27.out rfl
          have hK'' := (KeepsOthers.setCell w7 ⟨w.heap.size + 1 + 1, 0, none⟩ (.bool true)).same D1 _ hK17.out rfl
          have hg8 := grownBy_putObj' (w7.setCell ⟨w.heap.size + 1 + 1, 0, none⟩ (.bool true)) D2 (.deferred none)
          have hK8 := (hg8.block D1 (Array.getElem?_eq_some_iff.1 hK'').1 (by intro e; have := Option.some.inj e; omega)).trans hK''
          refine ⟨by simp, .inl ⟨_, _, rfl, run_takeDeferred hK', ⟨by simp, .inl ⟨_, _, rfl, run_takeDeferred hK8, ?_⟩⟩⟩⟩
          have hc5 := cell_kept (World.cell?_setCell_same' w7 ⟨w.heap.size + 1 + 1, 0, none⟩ (.bool true) (by rw [c4]; rfl)) hg8 (fun r e => by cases e; exact ⟨_, hK', rfl⟩)
          have hc6 := cell_kept hc5 (grownBy_putObj' _ D1 (.deferred none)) (fun r e => by cases e; exact ⟨_, hK8, rfl⟩)
          refine ⟨.bool true, ?_, rfl, ((hb7w.out.setCell (p := ⟨w.heap.size + 1 + 1, 0, none⟩) (by show w.heap.size ≤ w.heap.size + 1 + 1; omega) _).trans (belowK_b (w := w) (Nat.le_refl _) _ D2 _ _ (by omega) hK' rfl rfl)).trans (belowK_b (w := w) (Nat.le_refl _) _ D1 _ _ (by omega) hK8 rfl rfl)⟩
          simp [results, Try.results4, go_sem, hc6]
    refine (wpIn_wide (n := 9)).1 ?_
    refine range_top 29 8 rfl (n₀ := w1.heap.size + 1 + 1) (by omega) (all_stops 8 (by decide) (w1.heap.size + 1) (w1.heap.size + 1 + 1) a n ha hn W0 (by omega) (by omega) hInv.out.pre0 hInv.out.pre1)
      (fun pre V => Inv w.heap.size w1.heap.size a n vad vcap (E : Int) (nums D) pre.length V ∧ Below w.heap.size w V ∧ (W0.heap.size ≤ V.heap.size ∧ pre <+: D ∧ (E = 0 ∨ pre.length < E)))
      (fun cc pre V => (cc = .ret ∧ ¬ pre <+: D) ∨ (cc = .exit 0 ∧ Inv w.heap.size w1.heap.size a n vad vcap (E : Int) (nums D) pre.length V ∧ Below w.heap.size w V ∧ (W0.heap.size ≤ V.heap.size ∧ pre <+: D ∧ pre.length = E)))
      ?hI ?hIx ?h0 ?assign ?body ?done ?stop
    case hI => exact OwnFrom.and (Own.from (Inv.own w.heap.size w1.heap.size a n vad vcap (E : Int) (nums D) (fun (pre : List Byx) => (pre.length : Int))) _) (OwnFrom.and (ownFrom_below (Nat.le_refl _) (by omega)) (fun s A B row hs hg _ => ⟨Nat.le_trans hs.1 hg.size, hs.2⟩))
    case hIx =>
      intro cc s A B row hs hg hr
      rcases hs with hs | ⟨e, hs⟩
      · exact .inl hs
      · have own1 : OwnFrom W0.heap.size (fun (pre : List Byx) V => Inv w.heap.size w1.heap.size a n vad vcap (E : Int) (nums D) pre.length V ∧ Below w.heap.size w V ∧ (W0.heap.size ≤ V.heap.size ∧ pre <+: D ∧ pre.length = E)) :=
          OwnFrom.and (Own.from (Inv.own w.heap.size w1.heap.size a n vad vcap (E : Int) (nums D) (fun (pre : List Byx) => (pre.length : Int))) _) (OwnFrom.and (ownFrom_below (Nat.le_refl _) (by omega)) (fun s A B row hs hg _ => ⟨Nat.le_trans hs.1 hg.size, hs.2⟩))
        exact .inr ⟨e, own1 s A B row hs hg hr⟩
    case h0 => exact ⟨hInv.out, hB0.out, Nat.le_refl _, List.nil_prefix, by simp; omega⟩
    case assign =>
      intro l x V K2 hK2
      simp only [List.setIfInBounds_toArray, List.set_cons_succ, List.set_cons_zero] at hK2 ⊢
      gi_wp2
      exact hK2
    case body =>
      rintro l pre ⟨px, hpx⟩ V hl hr ⟨hIV, hbV, hzV, hpre, hpE⟩ hN2
      simp only [List.setIfInBounds_toArray, List.set_cons_succ, List.set_cons_zero]
      have hlD : pre.length < D.length := by rw [HD.out]; exact hN2
      have hklt : pre.length < (nums D).length := by rw [hlenD]; exact hlD
      have hnx := next_any (x := ⟨px, hpx⟩) hpre hlD
      generalize hQ : ownPostG _ _ _ _ _ _ = Q2
      refine body1 l Q2 _ _ _ _ _ _ _ _ _ _ _ _ _ _ _ _ _ _ _ _ _ _ _ _ _ _ _ _ _ _ _ _ _ _ _ _ _ _ _ _ _ _ _ _ _ _ _ _ _ _ _ _ _ _ _ _ _ _ _ _ _ _ _ _ _ _ _ _ _ _ _ _ _ _ _ _ _ _ _ _ _ _ _ _ _ _ _ _ _ _ _ _ _ _ w.heap.size w1.heap.size a n vad vcap E (nums D) pre.length px V hIV hklt hL33 (by omega) hbc ?_ ?_ ?_
      · intro hne a'
        rw [← hQ]
        exact ⟨(KeepsOthers.setCell _ _ _).from _, .inl ⟨rfl, fun h => hne (hnx.1 h).symm⟩⟩
      · intro heq hkE a'
        rw [← hQ]
        refine ⟨(KeepsOthers.setCell _ _ _).from _, .inr ⟨rfl, ?_, hbV.setCell (by show w.heap.size ≤ w1.heap.size + 1 + 1 + 1; omega) _, ?_, hnx.2 heq.symm, by rw [List.length_append]; exact hkE⟩⟩
        · rw [List.length_append]; exact hIV.set hbc _
        · simp [World.setCell]; omega
      · intro heq hkE a'
        rw [← hQ]
        refine ⟨(KeepsOthers.setCell _ _ _).from _, (Below.refl _ V).setCell (by show w1.heap.size + 1 + 1 ≤ w1.heap.size + 1 + 1 + 1; omega) _, ?_, hbV.setCell (by show w.heap.size ≤ w1.heap.size + 1 + 1 + 1; omega) _, ?_, hnx.2 heq.symm, ?_⟩
        · rw [List.length_append]; exact hIV.set hbc _
        · simp [World.setCell]; omega
        · rw [List.length_append]; show E = 0 ∨ pre.length + 1 < E; omega
    case done =>
      rintro D1 xs V hD1 hxs ⟨hIV, hbV, hzV, hpre, hpE⟩ hK1
      have hlx : xs.length = D.length := by rw [hxs, ← HD.out]
      exact hrest _ _ _ _ _ _ _ _ _ _ _ _ _ _ _ _ _ _ _ _ _ _ _ _ _ _ _ _ _ _ _ _ _ _ _ _ _ _ _ _ _ _ _ _ _ _ _ _ _ _ _ _ _ _ _ _ _ _ _ _ _ _ _ _ _ _ _ _ _ _ _ _ _ _ _ _ _ _ _ _ _ _ _ _ _ _ _ _ _ _ _ _ _ _ D1 xs.length V hIV hbV hzV hD1 hK1 (by omega) (by omega)
    case stop =>
      rintro D1 cc pre V hD1 hpre hIxx hK1
      rcases hIxx with ⟨rfl, hbad⟩ | ⟨rfl, hIV, hbV, hzV, hpre2, hpE⟩
      · exact absurd (by rw [HD.out]; exact hpre) hbad
      · gi_wp2
        exact hrest _ _ _ _ _ _ _ _ _ _ _ _ _ _ _ _ _ _ _ _ _ _ _ _ _ _ _ _ _ _ _ _ _ _ _ _ _ _ _ _ _ _ _ _ _ _ _ _ _ _ _ _ _ _ _ _ _ _ _ _ _ _ _ _ _ _ _ _ _ _ _ _ _ _ _ _ _ _ _ _ _ _ _ _ _ _ _ _ _ _ _ _ _ _ D1 pre.length V hIV hbV hzV hD1 hK1 (by omega) (by omega)

set_option maxRecDepth 100000 in
theorem maskAll_lifted (os : Os) (started : os.Started) (H : Type) (enc : TypeId × Value → H) :
    ReturnsInHanded {} Try.checked os 4 .any (Rows.maskAllSpec.pre6 enc Try.prog Try.f4 Rows.maskAllRow.domain false) (Rows.maskAllSpec.post enc Try.prog Try.f4 false true false false) := by
  refine returnsInHanded_of_change (C := Try.checked) own started (by kernel_rfl) Try.func4
    (ChangeSpec.witness6 (enc := enc) (C := Try.checked) false ⟨#[], #[.agg #[.int .u8 0, .int .u8 0], .int .i64 0], []⟩ 8 (by kernel_rfl) (by kernel_rfl) (by kernel_rfl) (by kernel_rfl)) ?_
  intro W base args ds gs before hval0 hW hcnd _
  have hval : ∀ (j : Nat) t v, Try.f4.params[j]? = some t → args[j]? = some v → Value.okWide Try.prog W .any base t v := hval0
  have hW' := hW
  obtain ⟨p, q, hA0, hV, rfl, hfz, hnd⟩ := hW
  have hA : DataW.TrodAll enc Try.prog W 0 (fun _ => true) true Try.f4.params.toList args.toList ds p := hA0
  rw [Try.params4] at hA hval
  obtain ⟨v0, vs0, d0, ds0, p0, q0, hargs, rfl, rfl, h0, r0⟩ := trodAll_cons hA
  obtain ⟨v1, vs1, d1, ds1, p1, q1, rfl, rfl, rfl, h1, r1⟩ := trodAll_cons r0
  obtain ⟨rfl, rfl, rfl⟩ := trodAll_nil r1
  obtain rfl : args = #[v0, v1] := by cases args; simp_all
  obtain ⟨rfl, rfl⟩ := trodVars_none hV
  obtain ⟨a0, n0, rfl, rfl, rfl, w0, x0⟩ := open_mk (hval 0 23 v0 rfl rfl) h0
  obtain ⟨b0, rfl, t0⟩ := wf_u8 w0
  obtain ⟨c0, rfl, u0⟩ := wf_u8 x0
  obtain ⟨a1, rfl, rfl, rfl, w1⟩ := open_int Try.underlying3 (hval 1 3 v1 rfl rfl) h1
  clear hA0 hval0
  simp only [List.append_nil] at hW'
  refine (maskAll_walk b0 c0 t0 u0 a1 w1 W ).mono fun e W' ⟨he, bel⟩ => ?_
  subst he
  exact ⟨_, rfl, _, _, _, [], _, [], hW', trodAll_mk1 (shut_bool Try.underlying4 _), (trodAll_cons_mk (shut_mk w0 x0) (trodAll_cons_mk (shut_int Try.underlying3 w1) trodAll_mk0)), rfl, bel.frame _, fun h => by cases h⟩

/-- The given statement. -/
theorem maskAll_holds : Rows.MaskAllSaid :=
  OpenClaim.holds_of_wide 4 Try.f4 rfl rfl rfl rfl rfl rfl rfl ⟨rfl, rfl, rfl, rfl, rfl⟩ rfl rfl rfl rfl rfl (by kernel_rfl) Try.func4 (by kernel_rfl)
    (of_decide_eq_true (by kernel_rfl)) (by unfold Func.isWrapper; first | (rw [if_pos (by decide +kernel)]; kernel_rfl) | (rw [if_neg (by decide +kernel)]; exact ⟨rfl, rfl⟩))
    (fun os started H enc _ => maskAll_lifted os started H enc)
#print axioms maskAll_holds
end Go.Proofs.Ytphfjhkbbodfaaa
