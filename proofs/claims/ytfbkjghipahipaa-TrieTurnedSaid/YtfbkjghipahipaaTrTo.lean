/-
  told: all that an iterator gives.
-/
import Derived.Test.YtfbkjghipahipaaTrAw
namespace Go.Proofs.Ytfbkjghipahipaa
open Go.RowKit Go.Shelf
set_option linter.unusedVariables false
set_option linter.unusedSimpArgs false
attribute [local go_sem] Oper.semAt_some

theorem rowE_kept {W W' : World} {b : Nat} {v : Value} {l : List En} {row : Option Nat} (h : RowE W b v l) (hg : W.grownBy W' row) (hr : ∀ r, row = some r → ∃ o : Obj, W.heap[r]? = some o ∧ o.isCells = false) : RowE W' b v l := by
  refine ⟨h.1, ?_⟩
  rcases h.2 with h2 | ⟨g, cap, cur, hv, hb, hh, q⟩
  · exact .inl h2
  · exact .inr ⟨g, cap, cur, hv, hb, blk_kept hh hg hr, q⟩
/-- The row's block. -/
def UR (LB B : Nat) (W : World) (k : Nat) : Prop := B ≤ k ∧ ∀ v, W.heap[LB]? = some (.cells #[v] 30) → v.ownBlock = some k
theorem ur_stab {LB B : Nat} (h : LB < B) : Stab B (UR LB B) := fun A C row k hA hg hr ⟨h3, h1⟩ => ⟨h3, fun v hv => h1 v (blk_kept hv hg hr)⟩
theorem op_appendSE {o : Oper} {a : Act} {w : World} {K : Act → World → Prop} {Q : Exit → Act → World → Prop} {lp n : Nat} (s x : Operand)
    (ho : o.op = .call { callee := .builtin .append, args := #[s, x], argTypes := #[30, 30] })
    (v u v' : Value) (w' : World) (hs : a.eval s = v) (hx : a.eval x = u) (hr : (Builtin.append_ #[30, 30] o.type #[v, u]).run Try.prog w = .ok v' w')
    (hK : K (a.put o.dst v') w') : o.wpIn (Fence.wide.inRound lp) n Try.prog a w K Q := by
  unfold Oper.wpIn
  refine ⟨fun f _ => trivial, ?_⟩
  rw [Fence.inRound_round, Oper.semAt_some lp _ _ (by rw [ho]; intro c h; cases h)]
  unfold execOp
  simp only [ho, resolve, invoke, builtin, Sem.run_bind, Sem.run_pure, Result.andThen_ok, List.map_toArray, List.map_cons, List.map_nil, hs, hx, hr]
  exact hK
theorem wpListIn_appendSE {ops : Array Oper} {rest : List Oper} {o : Oper} {a : Act} {w : World} {Q : Exit → Act → World → Prop} {lp n : Nat} (hgd : o.guard = none) (s x : Operand)
    (ho : o.op = .call { callee := .builtin .append, args := #[s, x], argTypes := #[30, 30] })
    (v u v' : Value) (w' : World) (hs : a.eval s = v) (hx : a.eval x = u) (hr : (Builtin.append_ #[30, 30] o.type #[v, u]).run Try.prog w = .ok v' w')
    (hK : wpListIn (Fence.wide.inRound lp) n Try.prog ops Q rest (a.put o.dst v') w') : wpListIn (Fence.wide.inRound lp) n Try.prog ops Q (o :: rest) a w :=
  wpListIn_plain hgd fun K hK' => op_appendSE s x ho v u v' w' hs hx hr (hK' _ _ hK)
def IT (w : World) (LB B : Nat) (pre : List En) (V : World) : Prop := ∃ v, V.heap[LB]? = some (.cells #[v] 30) ∧ RowE V B v pre ∧ Below w.heap.size w V
set_option maxRecDepth 100000 in
set_option maxHeartbeats 8000000 in
theorem toldC (g : Nat) (lb : Array Value) (P : Nat → Prop) (D : List En) (w : World) (hI : Itr g lb P D w) :
    Calls Try.prog 11 #[.func (.func g) #[] lb] w fun e w' => ∃ r, e = .returned r ∧ RowE w' w.heap.size r D ∧ Below w.heap.size w w' := by
  have hPl : ∀ q, P q → q < w.heap.size := hI.2.1
  have hb1 : Below w.heap.size w (w.alloc (.cells #[.slice none 0 0] 30)) := bel_al1 w _
  have HI : Hid (Itr g lb P D (w.alloc (.cells #[.slice none 0 0] 30))) := hI.later hb1
  have H0 : Hid (IT w w.heap.size (w.heap.size + 1) [] (w.alloc (.cells #[.slice none 0 0] 30))) := ⟨_, blk_new w _, RowE.nil _ _, hb1⟩
  have hz0 : (w.alloc (.cells #[.slice none 0 0] 30)).heap.size = w.heap.size + 1 := by simp
  have hU0 : ∀ k, UR w.heap.size (w.heap.size + 1) (w.alloc (.cells #[.slice none 0 0] 30)) k → k < (w.alloc (.cells #[.slice none 0 0] 30)).heap.size := fun k ⟨_, h1⟩ => by
    have := h1 _ (blk_new w _)
    cases this
  have hnf := fun V => eq_nilF g lb V
  clear hI hb1
  refine callsIn_wide.1 (callsIn_of_wp_marks (n := 9) Try.func11 rfl trivial ?_ rfl)
  simp only [Try.ntmps11, List.size_toArray, List.length_cons, List.length_nil, Nat.reduceAdd, Nat.reduceSub, Array.replicate_succ, Array.replicate_zero, List.push_toArray, List.append_toArray, List.nil_append, List.cons_append]
  refine wpIn_wide.2 ?_
  go_wp2_with (fail)
  generalize w.alloc (.cells #[.slice none 0 0] 30) = W0 at *
  refine (wpIn_wide (n := 9)).1 ?_
  have hU1 : Stab W0.heap.size (UR w.heap.size (w.heap.size + 1)) := by rw [hz0]; exact ur_stab (Nat.lt_succ_self _)
  refine itr_top 9 4 (UR w.heap.size (w.heap.size + 1)) hU1 hU0 rfl HI.out (IT w w.heap.size (w.heap.size + 1)) (fun cc pre V => False) ?hI ?hIx ?h0 ?assign ?body ?done ?stop
  case hI =>
    rintro s X Y row ⟨v, a1, a2, a3⟩ hg hr
    have hr' : ∀ r, row = some r → ∃ o : Obj, X.heap[r]? = some o ∧ o.isCells = false := fun r e => (hr r e).2
    exact ⟨v, blk_kept a1 hg hr', rowE_kept a2 hg hr', a3.grown hg (by have := a3.size; omega) (fun k e => by have := (hr k e).1; omega)⟩
  case hIx => rintro cc s X Y row h; exact h.elim
  case h0 => exact H0.out
  case assign =>
    intro l x V K hK
    simp only [List.setIfInBounds_toArray, List.set_cons_succ, List.set_cons_zero] at hK ⊢
    gi_wp2
    exact hK
  case body =>
    rintro l pre x b V hl hr hz hb hbk ⟨v, a1, a2, a3⟩ hN
    simp only [List.setIfInBounds_toArray, List.set_cons_succ, List.set_cons_zero]
    obtain ⟨x0, x1, x2⟩ := blk3 hbk
    have hzV : w.heap.size + 1 ≤ V.heap.size := by omega
    have hb1 := bel_al1 V (.cells #[.int .u32 (x.k : Int), .int .i64 (x.n : Int), .int .i64 x.v] 45)
    have hSx : SrcE (V.alloc (.cells #[.int .u32 (x.k : Int), .int .i64 (x.n : Int), .int .i64 x.v] 45)) (.slice (some ⟨V.heap.size, 0, none⟩) 1 1) [x] := (RowE.one V 0 x (Nat.zero_le _)).src
    obtain ⟨v2, V2, hrun, hrow, hgr, hat⟩ := run_appendSE (V.alloc (.cells #[.int .u32 (x.k : Int), .int .i64 (x.n : Int), .int .i64 x.v] 45)) 30 (w.heap.size + 1) v pre (a2.on hb1) _ [x] hSx (by simp; omega) (by simp; omega)
    have ha2 := blk_on a1 hb1
    have hLB : V2.heap[w.heap.size]? = some (.cells #[v] 30) := by
      rw [hgr.block _ (blk_lt ha2) (fun e => by have := (a2.lt _ e.symm).1; omega)]; exact ha2
    have y0 := blk_cell a1 (j := 0) rfl
    have y1 := blk_cell hLB (j := 0) rfl
    have f1 := blk_free hLB 0
    have hne : ¬ b = V.heap.size := by have := blk_lt hbk; omega
    have hne2 : ¬ w.heap.size = V.heap.size := by omega
    obtain ⟨ad, cap, hve, _, _⟩ := a2.form
    obtain ⟨ad2, cap2, hve2, _, _⟩ := hrow.form
    have hrow3 : RowE (V2.setCell ⟨w.heap.size, 0, none⟩ v2) (w.heap.size + 1) v2 (pre ++ [x]) := hrow.put (by intro e; have := (hrow.lt _ e.symm).1; omega) _
    have hLB3 : (V2.setCell ⟨w.heap.size, 0, none⟩ v2).heap[w.heap.size]? = some (.cells #[v2] 30) := by simpa using blk_set hLB (j := 0) v2
    have hG : ∀ a, ownPostU W0.heap.size (UR w.heap.size (w.heap.size + 1)) (Kpt P) (IT w w.heap.size (w.heap.size + 1)) (fun cc pre V => False) (pre ++ [x]) V .normal a (V2.setCell ⟨w.heap.size, 0, none⟩ v2) := fun a => by
      have hsz := hgr.size
      refine ⟨⟨⟨?_, ?_⟩, ?_, ?_⟩, ⟨?_, ?_⟩, v2, hLB3, hrow3, ?_⟩
      · simp at hsz ⊢; omega
      · intro k o hk ho hc
        rw [Below.heap_setCell _ _ _ _ (by intro e; simp only at e; omega), hgr.block k (by have := blk_lt ho; simp; omega) (fun e => ?_), Below.heap_alloc _ _ _ (blk_lt ho)]
        · exact ho
        · rcases (a2.2) with ⟨h1, _⟩ | ⟨g, cap, cur, hv, hb, hh, q⟩
          · rw [h1] at e; cases e
          · rw [hv] at e; simp [Value.ownBlock] at e; subst e; rw [hh] at ho; cases ho; cases hc
      · intro k hk hk2 hu
        rw [Below.heap_setCell _ _ _ _ (by intro e; simp only at e; omega), hgr.block k (by simp; omega) (fun e => hu ⟨by omega, fun u hu => by rw [a1] at hu; cases hu; exact e.symm⟩), Below.heap_alloc _ _ _ hk2]
      · rintro k ⟨h3, h1⟩
        have h2 := h1 _ hLB3
        rcases hat with q | q
        · exact .inl ⟨h3, fun u hu => by rw [a1] at hu; cases hu; rw [← q]; exact h2⟩
        · right
          rw [h2] at q
          have hk := (hrow.lt k h2).2
          simp at q ⊢
          omega
      · simp at hsz ⊢; omega
      · intro q hq
        have := hPl q hq
        rw [Below.heap_setCell _ _ _ _ (by intro e; simp only at e; omega), hgr.block q (by simp; omega) (fun e => by have := (a2.lt _ e.symm).1; omega), Below.heap_alloc _ _ _ (by omega)]
      · exact ((a3.trans (hb1.mono a3.size)).grown hgr (by simp; have := a3.size; omega) (fun k e => by have := (a2.lt _ e).1; omega)).setCell (p := ⟨w.heap.size, 0, none⟩) (Nat.le_refl _) _
    generalize hQ2 : ownPostU _ _ _ _ _ _ _ = Q2 at hG ⊢
    clear hQ2 a1 a2 a3 hbk hrow hrow3 hLB hLB3 hgr hat hSx ha2 hb1 hr hU0 hU1 HI H0
    generalize (pre ++ [x]).length = m at hve2
    subst hve hve2
    gi_wp2_with (first | ((with_reducible (show wpListIn _ _ _ _ _ (List.cons (Oper.mk (some 13) _ _ _ _ _) _) _ _)); refine wpListIn_appendSE rfl (.tmp 10) (.tmp 12) rfl _ _ _ _ rfl rfl hrun ?_; simp only [Act.put, List.setIfInBounds_toArray, List.set_cons_zero, List.set_cons_succ]))
    exact hG _
  case done =>
    rintro C V hC ⟨v, a1, a2, a3⟩ hK
    have HR : Hid (RowE V (w.heap.size + 1) v D) := a2
    have HB : Hid (Below w.heap.size w V) := a3
    have HDV : Hid (V.heap[C]? = some (.deferred (some []))) := hK
    have y0 := blk_cell a1 (j := 0) rfl
    obtain ⟨ad, cap, rfl, _, _⟩ := a2.form
    clear a1 a2 a3 hK
    go_wp2_with (fail)
    refine ⟨by simp, .inl ⟨_, _, rfl, run_takeDeferred HDV.out, ?_⟩⟩
    exact ⟨_, results_tmp rfl _ _ _, _, rfl, ((rowE_kept HR.out (grownBy_putObj' _ C (.deferred none)) (fun r e => by cases e; exact ⟨_, HDV.out, rfl⟩)).base (by omega)), HB.out.trans (belowK_b (w := w) (Nat.le_refl _) _ C _ _ (by omega) HDV.out rfl rfl)⟩
  case stop => rintro C c pre V _ _ h; exact h.elim
end Go.Proofs.Ytfbkjghipahipaa
