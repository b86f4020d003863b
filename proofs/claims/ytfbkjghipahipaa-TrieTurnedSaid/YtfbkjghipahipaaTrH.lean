/-
  A node made where a place is free; a node given back. Written by tools/mkTrH.py.
-/
import Derived.Test.YtfbkjghipahipaaTrG
import Derived.LoopN
namespace Go.Proofs.Ytfbkjghipahipaa
open Go.RowKit
set_option linter.unusedVariables false
set_option linter.unusedSimpArgs false

theorem wpList_storeN {ops : Array Oper} {rest : List Oper} {o : Oper} {a : Act} {w : World} {Q : Exit → Act → World → Prop} (hgd : o.guard = none) (x y : Operand) (ho : o.op = .store 70 x y)
    (b g n cap : Nat) (l : List Nd) (hr : RowN w b (.slice (some ⟨g, 0, none⟩) n cap) l) (p : Nat) (hp : p < n) (R : Nd) (hx : a.eval x = .pointer (some ⟨g, p * 4, none⟩)) (hy : a.eval y = .agg #[.int .i64 (R.a : Int), .int .i64 (R.b : Int), .bool R.h, .int .i64 R.v])
    (hK : ∀ w', RowN w' b (.slice (some ⟨g, 0, none⟩) n cap) (l.take p ++ [R] ++ l.drop (p + [R].length)) → w.grownBy w' (some g) → wpList Try.prog ops Q rest (a.put o.dst undef) w') : wpList Try.prog ops Q (o :: rest) a w :=
  wpList_plain hgd fun K hK' => wp_storeN x y ho b g n cap l hr p hp R hx hy fun w' h1 h2 => hK' _ _ (hK w' h1 h2)
theorem kids_run (a b : Nat) (hh : Bool) (v : Int) (w : World) : Sem.run Try.prog (Instr.field 70 (.agg #[.int .i64 (a : Int), .int .i64 (b : Int), .bool hh, .int .i64 v]) 0) w = .ok (.agg #[.int .i64 (a : Int), .int .i64 (b : Int)]) w := by
  obtain ⟨i, hi⟩ : ∃ i, (Try.prog.info? 68).map (·.size) = some i ∧ i = 2 := ⟨2, by kernel_rfl, rfl⟩
  cases hq : Try.prog.info? 68 with
  | none => simp [hq] at hi
  | some j =>
    have hs : j.size = 2 := by simp [hq] at hi; omega
    simp [Instr.field, part, run_underlying Try.underlying70, run_underlying Try.underlying68, asAgg, sizeOf, typeInfo, hq, hs]
theorem kid_run (a b s : Nat) (hs : s = 0 ∨ s = 1) (w : World) : Sem.run Try.prog (Instr.index 68 (.agg #[.int .i64 (a : Int), .int .i64 (b : Int)]) (.int .i64 (s : Int))) w = .ok (.int .i64 ((if s = 0 then a else b : Nat) : Int)) w := by
  rcases hs with rfl | rfl <;> simp [Instr.index, go_sem]
theorem kid_run0 (a b : Nat) (w : World) : Sem.run Try.prog (Instr.index 68 (.agg #[.int .i64 (a : Int), .int .i64 (b : Int)]) (.int .i64 0)) w = .ok (.int .i64 (a : Int)) w := kid_run a b 0 (.inl rfl) w
set_option maxHeartbeats 4000000 in
set_option maxRecDepth 20000 in
theorem take1 (t : Nat) (v : Value) (W M : Nat) (A : List Nd) (r q c : Nat) (w : World) (h : Tri w t v W M A r (q + 1) c) (hA : A.length ≤ 4294967295) (hc : c ≤ 4294967295) (hq : q < A.length) :
    Calls Try.prog 43 #[.pointer (some ⟨t, 0, none⟩)] w fun e w' => e = .returned (.int .i64 ((q + 1 : Nat) : Int)) ∧ ∃ v', Tri w' t v' W M (A.set q ndZ) r (gt A (q + 1)).a (c + 1) ∧ Moved w w' t v v' := by
  have h5 := h.set5 (c + 1)
  have hcc : ((c + 1 : Nat) : Int) = (c : Int) + 1 := by omega
  rw [hcc] at h5
  have hlt := h.lt
  have hnd := nodeC t v W M A r (q + 1) (c + 1) (q + 1) _ h5.1 (by omega) (by omega) (by omega)
  obtain ⟨c0, c1, c2, c3, c4, c5⟩ := blk6 h.1
  have hfz := blk_free h.1 5
  have HT : Hid (Tri (w.setCell ⟨t, 5, none⟩ (.int .i64 ((c : Int) + 1))) t v W M A r (q + 1) (c + 1)) := h5.1
  have HM : Hid (Moved w (w.setCell ⟨t, 5, none⟩ (.int .i64 ((c : Int) + 1))) t v v) := h5.2
  obtain ⟨g, cap, rfl, hcap, hg⟩ := h.filled (by omega)
  have hzq : ((q + 1 : Nat) : Int) = (q : Int) + 1 := by omega
  rw [hzq] at c4 hnd ⊢
  obtain ⟨d, hd⟩ : ∃ d, d = gt A (q + 1) := ⟨_, rfl⟩
  rw [← hd] at hnd ⊢
  clear hd
  obtain ⟨n, hn⟩ : ∃ n, n = A.length := ⟨_, rfl⟩
  have Hn : Hid (n = A.length) := hn
  have HS : Hid (A.take q ++ [ndZ] ++ A.drop (q + [ndZ].length) = A.set q ndZ) := take_set A q ndZ hq
  rw [← hn] at hA hcap c2 HT HM hq ⊢
  clear h h5 hn hcc
  have hc0 : (c : Int) ≤ 4294967295 := by omega
  have hn0 : (n : Int) ≤ 4294967295 := by omega
  have hq0 : (q : Int) < (n : Int) := by omega
  have hq1 : ¬ (q : Int) + 1 = 0 := by omega
  have hkr := fun W => kids_run d.a d.b d.h d.v W
  have hk0 := fun W => kid_run0 d.a d.b W
  go_enter Try.func43, Try.ntmps43
  go_wp2_with (fail)
  refine hnd.mono ?_
  rintro e w2 ⟨rfl, hb⟩
  have HT2 : Hid (Tri w2 t (.slice (some ⟨g, 0, none⟩) n cap) W M A r (q + 1) (c + 1)) := HT.out.on hb
  have HM2 : Hid (Moved w w2 t (.slice (some ⟨g, 0, none⟩) n cap) (.slice (some ⟨g, 0, none⟩) n cap)) := HM.out.trans (Moved.of_below hb)
  clear hb hnd HT HM c0 c1 c2 c3 c4 c5 hfz
  have h4 := HT2.out.set4 d.a
  have HT3 : Hid (Tri (w2.setCell ⟨t, 4, none⟩ (.int .i64 (d.a : Int))) t (.slice (some ⟨g, 0, none⟩) n cap) W M A r d.a (c + 1)) := h4.1
  have HM3 : Hid (Moved w (w2.setCell ⟨t, 4, none⟩ (.int .i64 (d.a : Int))) t (.slice (some ⟨g, 0, none⟩) n cap) (.slice (some ⟨g, 0, none⟩) n cap)) := HM2.out.trans h4.2
  obtain ⟨c0, c1, c2, c3, c4, c5⟩ := blk6 HT2.out.1
  have hfz := blk_free HT2.out.1 4
  clear h4 HM2
  go_wp2_with (refine wpList_storeN rfl (.tmp 50) (.tmp 49) rfl 0 g n cap A HT3.out.2.1 q hq ndZ rfl rfl ?_; intro w4 hr4 hg4)
  go_ret
  rw [HS.out] at hr4
  obtain ⟨k1, k2⟩ := Tri.over rfl HT3.out hr4 hg4
  exact ⟨ret_int (by omega), _, k1, HM3.out.trans k2⟩
set_option maxHeartbeats 4000000 in
set_option maxRecDepth 20000 in
theorem giveC (t : Nat) (v : Value) (W M : Nat) (A : List Nd) (r q f c : Nat) (w : World) (h : Tri w t v W M A r f c) (hA : A.length ≤ 4294967295) (h1 : 1 ≤ c) (hc : c ≤ 4294967295) (hq : q < A.length) :
    Calls Try.prog 44 #[.pointer (some ⟨t, 0, none⟩), .int .i64 ((q : Int) + 1)] w fun e w' => e = .returned (.tuple #[]) ∧ ∃ v', Tri w' t v' W M (A.set q ⟨f, 0, false, 0⟩) r (q + 1) (c - 1) ∧ Moved w w' t v v' := by
  have h5 := h.set5 (c - 1)
  have hcc : ((c - 1 : Nat) : Int) = (c : Int) - 1 := by omega
  rw [hcc] at h5
  have hlt := h.lt
  obtain ⟨c0, c1, c2, c3, c4, c5⟩ := blk6 h.1
  have hfz := blk_free h.1 5
  have HT : Hid (Tri (w.setCell ⟨t, 5, none⟩ (.int .i64 ((c : Int) - 1))) t v W M A r f (c - 1)) := h5.1
  have HM : Hid (Moved w (w.setCell ⟨t, 5, none⟩ (.int .i64 ((c : Int) - 1))) t v v) := h5.2
  obtain ⟨g, cap, rfl, hcap, hg⟩ := h.filled (by omega)
  obtain ⟨n, hn⟩ : ∃ n, n = A.length := ⟨_, rfl⟩
  have Hn : Hid (n = A.length) := hn
  have HS : Hid (A.take q ++ [(⟨f, 0, false, 0⟩ : Nd)] ++ A.drop (q + [(⟨f, 0, false, 0⟩ : Nd)].length) = A.set q ⟨f, 0, false, 0⟩) := take_set A q _ hq
  rw [← hn] at hA hcap c2 HT HM hq ⊢
  clear h h5 hn hcc
  have hc0 : (c : Int) ≤ 4294967295 := by omega
  have hc1 : (1 : Int) ≤ (c : Int) := by omega
  have hn0 : (n : Int) ≤ 4294967295 := by omega
  have hix : (q : Int) < (n : Int) := by omega
  have hix2 : ¬ n ≤ q := by omega
  have hwq : IntKind.i64.wrap (q : Int) = (q : Int) := by rw [IntKind.wrap_i64]; omega
  go_enter Try.func44, Try.ntmps44
  go_upto_region 1 with (fail)
  generalize w.setCell ⟨t, 5, none⟩ (.int .i64 ((c : Int) - 1)) = W1 at *
  clear c0 c1 c2 c3 c4 c5 hfz
  refine wp_region_held_drew (S := fun w' => w'.cell? ⟨t, 2, none⟩ = some (.slice (some ⟨g, 0, none⟩) n cap) ∧ w'.cell? ⟨t, 4, none⟩ = some (.int .i64 (f : Int))) (by kernel_rfl) ⟨(blk6 HT.out.1).2.2.1, (blk6 HT.out.1).2.2.2.2.1⟩ (fun hS1 => ?_)
  show wpAnyH _ _ _ _ _ 14 _ _ _
  refine wpAnyH_take (i := 0) (v := .pointer (some ⟨t, 0, none⟩)) rfl (by kernel_rfl) (by kernel_rfl) (by kernel_rfl) (fun _ _ _ h => h) (.inl ⟨rfl, fun _ _ => by simp [execOp, go_sem]⟩) hS1 ?_
  simp only [List.getElem_toArray, List.getElem_cons_succ, List.getElem_cons_zero, Act.put, List.setIfInBounds_toArray, List.set_cons_zero, List.set_cons_succ]
  refine wpAnyH_take (i := 1) (v := .pointer (some ⟨t, 0, none⟩)) rfl (by kernel_rfl) (by kernel_rfl) (by kernel_rfl) (fun _ _ _ h => h) (.inl ⟨rfl, fun _ _ => by simp [execOp, go_sem]⟩) hS1 ?_
  simp only [List.getElem_toArray, List.getElem_cons_succ, List.getElem_cons_zero, Act.put, List.setIfInBounds_toArray, List.set_cons_zero, List.set_cons_succ]
  refine wpAnyH_take (i := 2) (v := .pointer (some ⟨t, 2, none⟩)) rfl (by kernel_rfl) (by kernel_rfl) (by kernel_rfl) (fun _ _ _ h => h) (.inl ⟨rfl, fun _ _ => by simp [execOp, go_sem]⟩) hS1 ?_
  simp only [List.getElem_toArray, List.getElem_cons_succ, List.getElem_cons_zero, Act.put, List.setIfInBounds_toArray, List.set_cons_zero, List.set_cons_succ]
  refine wpAnyH_take (i := 3) (v := .slice (some ⟨g, 0, none⟩) n cap) rfl (by kernel_rfl) (by kernel_rfl) (by kernel_rfl) (fun _ _ _ h => h) (.inl ⟨rfl, fun w' hw' => by have hcc := hw'.1; simp [execOp, go_sem, hcc]⟩) hS1 ?_
  simp only [List.getElem_toArray, List.getElem_cons_succ, List.getElem_cons_zero, Act.put, List.setIfInBounds_toArray, List.set_cons_zero, List.set_cons_succ]
  refine wpAnyH_take (i := 4) (v := .int .i64 ((q : Int) + 1)) rfl (by kernel_rfl) (by kernel_rfl) (by kernel_rfl) (fun _ _ _ h => h) (.inl ⟨rfl, fun _ _ => by simp [execOp, go_sem]⟩) hS1 ?_
  simp only [List.getElem_toArray, List.getElem_cons_succ, List.getElem_cons_zero, Act.put, List.setIfInBounds_toArray, List.set_cons_zero, List.set_cons_succ]
  refine wpAnyH_take (i := 5) (v := .int .i64 (q : Int)) rfl (by kernel_rfl) (by kernel_rfl) (by kernel_rfl) (fun _ _ _ h => h) (.inl ⟨rfl, fun _ _ => by simp [execOp, go_sem, hwq]⟩) hS1 ?_
  simp only [List.getElem_toArray, List.getElem_cons_succ, List.getElem_cons_zero, Act.put, List.setIfInBounds_toArray, List.set_cons_zero, List.set_cons_succ]
  refine wpAnyH_take (i := 6) (v := .pointer (some ⟨t, 0, none⟩)) rfl (by kernel_rfl) (by kernel_rfl) (by kernel_rfl) (fun _ _ _ h => h) (.inl ⟨rfl, fun _ _ => by simp [execOp, go_sem]⟩) hS1 ?_
  simp only [List.getElem_toArray, List.getElem_cons_succ, List.getElem_cons_zero, Act.put, List.setIfInBounds_toArray, List.set_cons_zero, List.set_cons_succ]
  refine wpAnyH_take (i := 7) (v := .pointer (some ⟨t, 0, none⟩)) rfl (by kernel_rfl) (by kernel_rfl) (by kernel_rfl) (fun _ _ _ h => h) (.inl ⟨rfl, fun _ _ => by simp [execOp, go_sem]⟩) hS1 ?_
  simp only [List.getElem_toArray, List.getElem_cons_succ, List.getElem_cons_zero, Act.put, List.setIfInBounds_toArray, List.set_cons_zero, List.set_cons_succ]
  refine wpAnyH_take (i := 8) (v := .pointer (some ⟨t, 4, none⟩)) rfl (by kernel_rfl) (by kernel_rfl) (by kernel_rfl) (fun _ _ _ h => h) (.inl ⟨rfl, fun _ _ => by simp [execOp, go_sem]⟩) hS1 ?_
  simp only [List.getElem_toArray, List.getElem_cons_succ, List.getElem_cons_zero, Act.put, List.setIfInBounds_toArray, List.set_cons_zero, List.set_cons_succ]
  refine wpAnyH_take (i := 9) (v := .int .i64 (f : Int)) rfl (by kernel_rfl) (by kernel_rfl) (by kernel_rfl) (fun _ _ _ h => h) (.inl ⟨rfl, fun w' hw' => by have hcc := hw'.2; simp [execOp, go_sem, hcc]⟩) hS1 ?_
  simp only [List.getElem_toArray, List.getElem_cons_succ, List.getElem_cons_zero, Act.put, List.setIfInBounds_toArray, List.set_cons_zero, List.set_cons_succ]
  refine wpAnyH_take (i := 10) (v := .agg #[.int .i64 (f : Int), .int .i64 0]) rfl (by kernel_rfl) (by kernel_rfl) (by kernel_rfl) (fun _ _ _ h => h) (.inl ⟨rfl, fun _ _ => by simp [execOp, go_sem]⟩) hS1 ?_
  simp only [List.getElem_toArray, List.getElem_cons_succ, List.getElem_cons_zero, Act.put, List.setIfInBounds_toArray, List.set_cons_zero, List.set_cons_succ]
  refine wpAnyH_take (i := 11) (v := .agg #[.int .i64 (f : Int), .int .i64 0, .bool false, .int .i64 0]) rfl (by kernel_rfl) (by kernel_rfl) (by kernel_rfl) (fun _ _ _ h => h) (.inl ⟨rfl, fun _ _ => by simp [execOp, go_sem]⟩) hS1 ?_
  simp only [List.getElem_toArray, List.getElem_cons_succ, List.getElem_cons_zero, Act.put, List.setIfInBounds_toArray, List.set_cons_zero, List.set_cons_succ]
  refine wpAnyH_take (i := 12) (v := .pointer (some ⟨g, q * 4, none⟩)) rfl (by kernel_rfl) (by kernel_rfl) (by kernel_rfl) (fun _ _ _ h => h) (yieldsIf_index rfl 56 (.tmp 14) (.tmp 16) rfl _ (fun w => by simp [Instr.indexAt, go_sem, hix, hix2])) hS1 ?_
  simp only [List.getElem_toArray, List.getElem_cons_succ, List.getElem_cons_zero, Act.put, List.setIfInBounds_toArray, List.set_cons_zero, List.set_cons_succ]
  refine wpAnyH_all (rs := [13]) (by kernel_rfl) (by simp) ?_
  intro i hi
  simp only [List.mem_cons, List.not_mem_nil, or_false] at hi
  subst hi
  refine wpOp_of_wp rfl rfl (fun K' hK' => ?_)
  refine wp_storeN (.tmp 23) (.tmp 22) rfl 0 g n cap A HT.out.2.1 q hq ⟨f, 0, false, 0⟩ rfl rfl (fun w6 hr6 hg6 => hK' _ _ ⟨?_, ?_⟩)
  · obtain ⟨k1, k2⟩ := Tri.over rfl HT.out.drew hr6 hg6
    exact ⟨(blk6 k1.1).2.2.1, (blk6 k1.1).2.2.2.2.1⟩
  · refine wpAnyH_done (by kernel_rfl) ?_ _
    rw [HS.out] at hr6
    obtain ⟨k1, k2⟩ := Tri.over rfl HT.out.drew hr6 hg6
    have HT6 : Hid (Tri w6 t (.slice (some ⟨g, 0, none⟩) n cap) W M (A.set q ⟨f, 0, false, 0⟩) r f (c - 1)) := k1
    have HM6 : Hid (Moved w w6 t (.slice (some ⟨g, 0, none⟩) n cap) (.slice (some ⟨g, 0, none⟩) n cap)) := HM.out.trans k2.undrew
    obtain ⟨c0, c1, c2, c3, c4, c5⟩ := blk6 k1.1
    have hfz := blk_free k1.1 4
    clear k1 k2 hr6 hg6 hK' HT HM
    simp only [List.getElem_toArray, List.getElem_cons_succ, List.getElem_cons_zero, Act.put, List.setIfInBounds_toArray, List.set_cons_zero, List.set_cons_succ]
    go_wp2_with (fail)
    go_end0
    have h4 := HT6.out.set4 (q + 1)
    rw [show ((q + 1 : Nat) : Int) = (q : Int) + 1 by omega] at h4
    exact ⟨rfl, _, h4.1, HM6.out.trans h4.2⟩
end Go.Proofs.Ytfbkjghipahipaa
