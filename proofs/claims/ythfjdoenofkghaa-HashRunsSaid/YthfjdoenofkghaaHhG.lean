/-
  A table of slots written: what stays; isCrowded, fill. Written by tools/mkHhG.py.
-/
import Derived.Test.YthfjdoenofkghaaHhS
namespace Go.Proofs.Ythfjdoenofkghaa
open Go.RowKit
set_option linter.unusedVariables false
set_option linter.unusedSimpArgs false

section
variable {w w' : World} {t : Nat} {v v' : Value} {M c sp c' sp' : Nat} {l l' : List SlI}
theorem Tab.put (h : Tab w t v M c sp l) (ho : Only t w w') (hb : w'.heap[t]? = some (.cells #[.int .i64 (M : Int), .int .i64 (c' : Int), .int .i64 (sp' : Int), v] 62 (0, 0))) : Tab w' t v M c' sp' l ∧ Moved w w' t v v := by
  refine ⟨⟨hb, ⟨h.2.1.1, ?_⟩, h.2.2⟩, ⟨ho.os, ho.tape, ho.output, Nat.le_of_eq ho.size.symm, fun k hk ht _ => ho.block k ht, fun k e => .inl e⟩⟩
  rcases h.2.1.2 with h2 | ⟨g, cap, cur, hv, hg, hh, q⟩
  · exact .inl h2
  · exact .inr ⟨g, cap, cur, hv, hg, by rw [ho.block g (fun e => h.2.2 (by rw [hv, e]; rfl))]; exact hh, q⟩
theorem only_setCell (w : World) (t j : Nat) (u : Value) : Only t w (w.setCell ⟨t, j, none⟩ u) :=
  ⟨rfl, rfl, rfl, by simp, fun k hk => Below.heap_setCell w ⟨t, j, none⟩ u k hk⟩
theorem Tab.set1 (h : Tab w t v M c sp l) (x : Nat) : Tab (w.setCell ⟨t, 1, none⟩ (.int .i64 (x : Int))) t v M x sp l ∧ Moved w (w.setCell ⟨t, 1, none⟩ (.int .i64 (x : Int))) t v v :=
  h.put (only_setCell w t 1 _) (blk_set h.1 _)
theorem Tab.set2 (h : Tab w t v M c sp l) (x : Nat) : Tab (w.setCell ⟨t, 2, none⟩ (.int .i64 (x : Int))) t v M c x l ∧ Moved w (w.setCell ⟨t, 2, none⟩ (.int .i64 (x : Int))) t v v :=
  h.put (only_setCell w t 2 _) (blk_set h.1 _)
/-- The row is another. -/
theorem Tab.row (hr : RowL w 0 v' l') (hne : v'.ownBlock ≠ some t) (hb : w.heap[t]? = some (.cells #[.int .i64 (M : Int), .int .i64 (c : Int), .int .i64 (sp : Int), v] 62 (0, 0))) : Tab (w.setCell ⟨t, 3, none⟩ v') t v' M c sp l' := by
  refine ⟨blk_set hb _, ⟨hr.1, ?_⟩, hne⟩
  rcases hr.2 with h2 | ⟨g, cap, cur, hv, hg, hh, q⟩
  · exact .inl h2
  · exact .inr ⟨g, cap, cur, hv, hg, by rw [(only_setCell w t 3 v').block g (fun e => hne (by rw [hv, e]; rfl))]; exact hh, q⟩
/-- A slot of the row is another. -/
theorem Tab.over {g n cap : Nat} (hv : v = .slice (some ⟨g, 0, none⟩) n cap) (h : Tab w t v M c sp l) (hr : RowL w' 0 v l') (hg : w.grownBy w' (some g)) : Tab w' t v M c sp l' ∧ Moved w w' t v v := by
  subst hv
  have hne : t ≠ g := fun e => h.2.2 (by simp [Value.ownBlock, e])
  exact ⟨⟨by rw [hg.block t h.lt (by simpa using hne)]; exact h.1, hr, h.2.2⟩, ⟨hg.os, hg.tape, hg.output, hg.size, fun k hk _ hv => hg.block k hk (fun e => hv (by simp at e; simp [Value.ownBlock, e])), fun k e => .inl e⟩⟩
theorem take_set (A : List SlI) (p : Nat) (x : SlI) (h : p < A.length) : A.take p ++ [x] ++ A.drop (p + [x].length) = A.set p x := by
  rw [List.set_eq_take_append_cons_drop, if_pos h]; simp
theorem Tab.filled (h : Tab w t v M c sp l) (h0 : 0 < l.length) : ∃ g cap, v = .slice (.some ⟨g, 0, none⟩) l.length cap ∧ l.length ≤ cap ∧ g < w.heap.size := by
  obtain ⟨g, cap, hv, hc, _, hg⟩ := h.2.1.some h0
  exact ⟨g, cap, hv, hc, hg⟩
theorem Tab.kb (h : Tab w t v M c sp l) {B : Nat} {o : Obj} (ho : w.heap[B]? = some o) (ht : B ≠ t) (hv : v.ownBlock ≠ some B) : Kb w t v B o := ⟨ho, ht, hv⟩
end
theorem wpList_storeL {ops : Array Oper} {rest : List Oper} {o : Oper} {a : Act} {w : World} {Q : Exit → Act → World → Prop} (hgd : o.guard = none) (x y : Operand) (ho : o.op = .store 72 x y)
    (b g n cap : Nat) (l : List SlI) (hr : RowL w b (.slice (some ⟨g, 0, none⟩) n cap) l) (p : Nat) (hp : p < n) (R : SlI) (hx : a.eval x = .pointer (some ⟨g, p * 7, none⟩)) (hy : a.eval y = .agg #[.int .i64 (R.st : Int), .int .u32 (R.k.s : Int), .int .u32 (R.k.d : Int), .int .u16 (R.k.p : Int), .int .u16 (R.k.q : Int), .int .u8 (R.k.r : Int), .int .i64 R.v])
    (hK : ∀ w', RowL w' b (.slice (some ⟨g, 0, none⟩) n cap) (l.take p ++ [R] ++ l.drop (p + [R].length)) → w.grownBy w' (some g) → wpList Try.prog ops Q rest (a.put o.dst undef) w') : wpList Try.prog ops Q (o :: rest) a w :=
  wpList_plain hgd fun _ hK' => wp_storeL x y ho b g n cap l hr p hp R hx hy fun w' h2 h3 => hK' _ _ (hK w' h2 h3)
set_option maxHeartbeats 1000000 in
theorem crowdC (t : Nat) (v : Value) (M c sp : Nat) (l : List SlI) (w : World) (h : Tab w t v M c sp l) (hl : l.length ≤ 4294967296) (hs : sp ≤ 4294967296) :
    Calls Try.prog 24 #[.pointer (some ⟨t, 0, none⟩)] w fun e w' => e = .returned (.bool (decide (3 * l.length < 4 * (sp + 1)))) ∧ Below w.heap.size w w' := by
  obtain ⟨c0, c1, c2, c3⟩ := blk4 h.1
  obtain ⟨ad, cap, rfl, hcap, hat⟩ := h.2.1.form
  obtain ⟨n, hn⟩ : ∃ n, n = l.length := ⟨_, rfl⟩
  rw [← hn] at hl hcap c3 ⊢
  clear hat hn h
  have hn0 : (n : Int) ≤ 4294967296 := by omega
  have hs0 : (sp : Int) ≤ 4294967296 := by omega
  go_enter Try.func24, Try.ntmps24
  go_wp2
  go_quiet (fail)
  go_wp2
  go_ret
  refine ⟨ret_same ?_, bel_drewN (Below.refl _ _) _⟩
  rw [Bool.eq_iff_iff]; simp; omega
set_option maxHeartbeats 4000000 in
set_option maxRecDepth 20000 in
theorem fillC (t : Nat) (v : Value) (M c sp x : Nat) (l : List SlI) (k : Hd) (y : Int) (a : SlI) (w : World) (h : Tab w t v M c sp l) (hl : l.length ≤ 4294967296) (hs : sp ≤ 4294967296) (hc : c ≤ 4294967296) (ha : l[x]? = some a) :
    Calls Try.prog 26 #[.pointer (some ⟨t, 0, none⟩), .int .i64 (x : Int), .agg #[.int .u32 (k.s : Int), .int .u32 (k.d : Int), .int .u16 (k.p : Int), .int .u16 (k.q : Int), .int .u8 (k.r : Int)], .int .i64 y] w fun e w' => e = .returned (.tuple #[]) ∧ Tab w' t v M (c + 1) (if a.st = 0 then sp + 1 else sp) (l.set x ⟨1, k, y⟩) ∧ Moved w w' t v v := by
  have hx : x < l.length := (List.getElem?_eq_some_iff.1 ha).1
  have hlt := h.lt
  obtain ⟨g, cap, rfl, hcap, hg⟩ := h.filled (by omega)
  have HSet : Hid (l.take x ++ [(⟨1, k, y⟩ : SlI)] ++ l.drop (x + [(⟨1, k, y⟩ : SlI)].length) = l.set x ⟨1, k, y⟩) := take_set l x _ hx
  obtain ⟨n, hn⟩ : ∃ n, n = l.length := ⟨_, rfl⟩
  have Hn : Hid (n = l.length) := hn
  rw [← hn] at h hl hx hcap ⊢
  clear hn
  have b1 : Below w.heap.size w (w.alloc (.cells #[.int .u32 (k.s : Int), .int .u32 (k.d : Int), .int .u16 (k.p : Int), .int .u16 (k.q : Int), .int .u8 (k.r : Int)] 36)) := (Below.refl _ _).alloc (Nat.le_refl _) _
  have h1 := h.on b1
  have HK1 : Hid (Kb (w.alloc (.cells #[.int .u32 (k.s : Int), .int .u32 (k.d : Int), .int .u16 (k.p : Int), .int .u16 (k.q : Int), .int .u8 (k.r : Int)] 36)) t (.slice (some ⟨g, 0, none⟩) n cap) w.heap.size (.cells #[.int .u32 (k.s : Int), .int .u32 (k.d : Int), .int .u16 (k.p : Int), .int .u16 (k.q : Int), .int .u8 (k.r : Int)] 36)) := ⟨blk_new w _, by omega, fun e => by have := h.own e; omega⟩
  have HM1 : Hid (Moved w (w.alloc (.cells #[.int .u32 (k.s : Int), .int .u32 (k.d : Int), .int .u16 (k.p : Int), .int .u16 (k.q : Int), .int .u8 (k.r : Int)] 36)) t (.slice (some ⟨g, 0, none⟩) n cap) (.slice (some ⟨g, 0, none⟩) n cap)) := Moved.of_below b1
  obtain ⟨d0, _, _, _, _, _, _⟩ := rowL_at h1.2.1 ha
  obtain ⟨st, hst⟩ : ∃ st, st = a.st := ⟨_, rfl⟩
  rw [← hst] at d0 ⊢
  clear hst
  obtain ⟨sp', hsp⟩ : ∃ sp', sp' = if st = 0 then sp + 1 else sp := ⟨_, rfl⟩
  rw [← hsp]
  have HSP : Hid (sp' = if st = 0 then sp + 1 else sp) := hsp
  clear hsp
  obtain ⟨c0, c1, c2, c3⟩ := blk4 h1.1
  have f1 := blk_free h1.1 1
  have f2 := blk_free h1.1 2
  have hn0 : (n : Int) ≤ 4294967296 := by omega
  have hs0 : (sp : Int) ≤ 4294967296 := by omega
  have hc0 : (c : Int) ≤ 4294967296 := by omega
  have hix : (x : Int) < (n : Int) := by omega
  have hix2 : ¬ n ≤ x := by omega
  have hne : ¬ t = w.heap.size := by omega
  have H1 : Hid (Tab (w.alloc (.cells #[.int .u32 (k.s : Int), .int .u32 (k.d : Int), .int .u16 (k.p : Int), .int .u16 (k.q : Int), .int .u8 (k.r : Int)] 36)) t (.slice (some ⟨g, 0, none⟩) n cap) M c sp l) := h1
  have hW1 : w.heap.size < (w.alloc (.cells #[.int .u32 (k.s : Int), .int .u32 (k.d : Int), .int .u16 (k.p : Int), .int .u16 (k.q : Int), .int .u8 (k.r : Int)] 36)).heap.size := by simp
  clear h h1 b1
  go_enter Try.func26, Try.ntmps26
  go_upto_region 1 with (fail)
  generalize w.alloc (.cells #[.int .u32 (k.s : Int), .int .u32 (k.d : Int), .int .u16 (k.p : Int), .int .u16 (k.q : Int), .int .u8 (k.r : Int)] 36) = W1 at *
  by_cases h0 : st = 0
  · have hsp' : sp' = sp + 1 := by rw [HSP.out, if_pos h0]
    clear HSP
    subst hsp'
    subst h0
    have q2 := H1.out.set2 (sp + 1)
    have q1 := q2.1.set1 (c + 1)
    rw [show ((sp + 1 : Nat) : Int) = (sp : Int) + 1 by omega, show ((c + 1 : Nat) : Int) = (c : Int) + 1 by omega] at q1
    rw [show ((sp + 1 : Nat) : Int) = (sp : Int) + 1 by omega] at q2
    have HT3 : Hid (Tab _ t (.slice (some ⟨g, 0, none⟩) n cap) M (c + 1) (sp + 1) l) := q1.1
    have HM3 : Hid (Moved w _ t (.slice (some ⟨g, 0, none⟩) n cap) (.slice (some ⟨g, 0, none⟩) n cap)) := (HM1.out.trans q2.2).trans q1.2
    have HK3 : Hid (Kb _ t (.slice (some ⟨g, 0, none⟩) n cap) w.heap.size (.cells #[.int .u32 (k.s : Int), .int .u32 (k.d : Int), .int .u16 (k.p : Int), .int .u16 (k.q : Int), .int .u8 (k.r : Int)] 36)) := (HK1.out.moved q2.2).moved q1.2
    clear q1 q2 HK1 HM1 H1
    go_upto_region 4 with (fail)
    clear c0 c1 c2 c3 d0 f1 f2
    generalize (W1.setCell ⟨t, 2, none⟩ (.int .i64 ((sp : Int) + 1))).setCell ⟨t, 1, none⟩ (.int .i64 ((c : Int) + 1)) = W3 at *
    have HKB : Hid (W3.heap[w.heap.size]? = some (.cells #[.int .u32 (k.s : Int), .int .u32 (k.d : Int), .int .u16 (k.p : Int), .int .u16 (k.q : Int), .int .u8 (k.r : Int)] 36)) := HK3.out.1
    refine wp_region_held_drew (S := fun w' => w'.cell? ⟨t, 3, none⟩ = some (.slice (some ⟨g, 0, none⟩) n cap) ∧ w'.heap[w.heap.size]? = some (.cells #[.int .u32 (k.s : Int), .int .u32 (k.d : Int), .int .u16 (k.p : Int), .int .u16 (k.q : Int), .int .u8 (k.r : Int)] 36)) (by kernel_rfl) ⟨(blk4 HT3.out.1).2.2.2, HKB.out⟩ (fun hS1 => ?_)
    show wpAnyH _ _ _ _ _ 10 _ _ _
    refine wpAnyH_take (i := 0) (v := .pointer (some ⟨t, 0, none⟩)) rfl (by kernel_rfl) (by kernel_rfl) (by kernel_rfl) (fun _ _ _ h => h) (.inl ⟨rfl, fun _ _ => by simp [execOp, go_sem]⟩) hS1 ?_
    simp only [List.getElem_toArray, List.getElem_cons_succ, List.getElem_cons_zero, Act.put, List.setIfInBounds_toArray, List.set_cons_zero, List.set_cons_succ]
    refine wpAnyH_take (i := 1) (v := .pointer (some ⟨t, 0, none⟩)) rfl (by kernel_rfl) (by kernel_rfl) (by kernel_rfl) (fun _ _ _ h => h) (.inl ⟨rfl, fun _ _ => by simp [execOp, go_sem]⟩) hS1 ?_
    simp only [List.getElem_toArray, List.getElem_cons_succ, List.getElem_cons_zero, Act.put, List.setIfInBounds_toArray, List.set_cons_zero, List.set_cons_succ]
    refine wpAnyH_take (i := 2) (v := .pointer (some ⟨t, 3, none⟩)) rfl (by kernel_rfl) (by kernel_rfl) (by kernel_rfl) (fun _ _ _ h => h) (.inl ⟨rfl, fun _ _ => by simp [execOp, go_sem]⟩) hS1 ?_
    simp only [List.getElem_toArray, List.getElem_cons_succ, List.getElem_cons_zero, Act.put, List.setIfInBounds_toArray, List.set_cons_zero, List.set_cons_succ]
    refine wpAnyH_take (i := 3) (v := .slice (some ⟨g, 0, none⟩) n cap) rfl (by kernel_rfl) (by kernel_rfl) (by kernel_rfl) (fun _ _ _ h => h) (.inl ⟨rfl, fun w' hw' => by have hcc := hw'.1; simp [execOp, go_sem, hcc]⟩) hS1 ?_
    simp only [List.getElem_toArray, List.getElem_cons_succ, List.getElem_cons_zero, Act.put, List.setIfInBounds_toArray, List.set_cons_zero, List.set_cons_succ]
    refine wpAnyH_take (i := 4) (v := .int .i64 (x : Int)) rfl (by kernel_rfl) (by kernel_rfl) (by kernel_rfl) (fun _ _ _ h => h) (.inl ⟨rfl, fun _ _ => by simp [execOp, go_sem]⟩) hS1 ?_
    simp only [List.getElem_toArray, List.getElem_cons_succ, List.getElem_cons_zero, Act.put, List.setIfInBounds_toArray, List.set_cons_zero, List.set_cons_succ]
    refine wpAnyH_take (i := 5) (v := .agg #[.int .u32 (k.s : Int), .int .u32 (k.d : Int), .int .u16 (k.p : Int), .int .u16 (k.q : Int), .int .u8 (k.r : Int)]) rfl (by kernel_rfl) (by kernel_rfl) (by kernel_rfl) (fun _ _ _ h => h) (yieldsIf_load_mid rfl 36 (.tmp 6) rfl w.heap.size 0 rfl [.int .u32 (k.s : Int), .int .u32 (k.d : Int), .int .u16 (k.p : Int), .int .u16 (k.q : Int), .int .u8 (k.r : Int)] _ (fun w' hw' => by have := World.rangeAt_of_block hw'.2 0 5; simpa using this) Try.underlying36 rfl (by kernel_rfl)) hS1 ?_
    simp only [List.getElem_toArray, List.getElem_cons_succ, List.getElem_cons_zero, Act.put, List.setIfInBounds_toArray, List.set_cons_zero, List.set_cons_succ]
    refine wpAnyH_take (i := 6) (v := .int .i64 y) rfl (by kernel_rfl) (by kernel_rfl) (by kernel_rfl) (fun _ _ _ h => h) (.inl ⟨rfl, fun _ _ => by simp [execOp, go_sem]⟩) hS1 ?_
    simp only [List.getElem_toArray, List.getElem_cons_succ, List.getElem_cons_zero, Act.put, List.setIfInBounds_toArray, List.set_cons_zero, List.set_cons_succ]
    refine wpAnyH_take (i := 7) (v := .agg #[.int .i64 1, .int .u32 (k.s : Int), .int .u32 (k.d : Int), .int .u16 (k.p : Int), .int .u16 (k.q : Int), .int .u8 (k.r : Int), .int .i64 y]) rfl (by kernel_rfl) (by kernel_rfl) (by kernel_rfl) (fun _ _ _ h => h) (.inl ⟨rfl, fun _ _ => by simp [execOp, go_sem]⟩) hS1 ?_
    simp only [List.getElem_toArray, List.getElem_cons_succ, List.getElem_cons_zero, Act.put, List.setIfInBounds_toArray, List.set_cons_zero, List.set_cons_succ]
    refine wpAnyH_take (i := 8) (v := .pointer (some ⟨g, x * 7, none⟩)) rfl (by kernel_rfl) (by kernel_rfl) (by kernel_rfl) (fun _ _ _ h => h) (yieldsIf_index rfl 60 (.tmp 34) (.tmp 35) rfl _ (fun w => by simp [Instr.indexAt, go_sem, hix, hix2])) hS1 ?_
    simp only [List.getElem_toArray, List.getElem_cons_succ, List.getElem_cons_zero, Act.put, List.setIfInBounds_toArray, List.set_cons_zero, List.set_cons_succ]
    refine wpAnyH_all (rs := [9]) (by kernel_rfl) (by simp) ?_
    intro i hi
    simp only [List.mem_cons, List.not_mem_nil, or_false] at hi
    subst hi
    refine wpOp_of_wp rfl rfl (fun K' hK' => ?_)
    refine wp_storeL (.tmp 39) (.tmp 38) rfl 0 g n cap l HT3.out.2.1 x hx (⟨1, k, y⟩ : SlI) rfl rfl (fun w6 hr6 hg6 => hK' _ _ ⟨?_, ?_⟩)
    · obtain ⟨k1, k2⟩ := Tab.over rfl HT3.out.drew hr6 hg6
      exact ⟨(blk4 k1.1).2.2.2, (HK3.out.moved k2.undrew).1⟩
    · refine wpAnyH_done (by kernel_rfl) ?_ _
      rw [HSet.out] at hr6
      obtain ⟨k1, k2⟩ := Tab.over rfl HT3.out.drew hr6 hg6
      have HT6 : Hid (Tab w6 t (.slice (some ⟨g, 0, none⟩) n cap) M (c + 1) (sp + 1) (l.set x ⟨1, k, y⟩)) := k1
      have HM6 : Hid (Moved w w6 t (.slice (some ⟨g, 0, none⟩) n cap) (.slice (some ⟨g, 0, none⟩) n cap)) := HM3.out.trans k2.undrew
      clear k1 k2 hr6 hg6 hK' HT3 HM3 HK3 HKB hS1
      simp only [List.getElem_toArray, List.getElem_cons_succ, List.getElem_cons_zero, Act.put, List.setIfInBounds_toArray, List.set_cons_zero, List.set_cons_succ]
      go_wp2_with (fail)
      go_end0
      exact ⟨rfl, HT6.out, HM6.out⟩
  · have hsp' : sp = sp' := by rw [HSP.out, if_neg h0]
    clear HSP
    subst hsp'
    have h0' : ¬ (st : Int) = 0 := by omega
    have q1 := H1.out.set1 (c + 1)
    rw [show ((c + 1 : Nat) : Int) = (c : Int) + 1 by omega] at q1
    have HT3 : Hid (Tab _ t (.slice (some ⟨g, 0, none⟩) n cap) M (c + 1) sp l) := q1.1
    have HM3 : Hid (Moved w _ t (.slice (some ⟨g, 0, none⟩) n cap) (.slice (some ⟨g, 0, none⟩) n cap)) := HM1.out.trans q1.2
    have HK3 : Hid (Kb _ t (.slice (some ⟨g, 0, none⟩) n cap) w.heap.size (.cells #[.int .u32 (k.s : Int), .int .u32 (k.d : Int), .int .u16 (k.p : Int), .int .u16 (k.q : Int), .int .u8 (k.r : Int)] 36)) := HK1.out.moved q1.2
    clear q1 HK1 HM1 H1 h0
    go_upto_region 4 with (fail)
    clear c0 c1 c2 c3 d0 f1 f2
    generalize W1.setCell ⟨t, 1, none⟩ (.int .i64 ((c : Int) + 1)) = W3 at *
    have HKB : Hid (W3.heap[w.heap.size]? = some (.cells #[.int .u32 (k.s : Int), .int .u32 (k.d : Int), .int .u16 (k.p : Int), .int .u16 (k.q : Int), .int .u8 (k.r : Int)] 36)) := HK3.out.1
    refine wp_region_held_drew (S := fun w' => w'.cell? ⟨t, 3, none⟩ = some (.slice (some ⟨g, 0, none⟩) n cap) ∧ w'.heap[w.heap.size]? = some (.cells #[.int .u32 (k.s : Int), .int .u32 (k.d : Int), .int .u16 (k.p : Int), .int .u16 (k.q : Int), .int .u8 (k.r : Int)] 36)) (by kernel_rfl) ⟨(blk4 HT3.out.1).2.2.2, HKB.out⟩ (fun hS1 => ?_)
    show wpAnyH _ _ _ _ _ 10 _ _ _
    refine wpAnyH_take (i := 0) (v := .pointer (some ⟨t, 0, none⟩)) rfl (by kernel_rfl) (by kernel_rfl) (by kernel_rfl) (fun _ _ _ h => h) (.inl ⟨rfl, fun _ _ => by simp [execOp, go_sem]⟩) hS1 ?_
    simp only [List.getElem_toArray, List.getElem_cons_succ, List.getElem_cons_zero, Act.put, List.setIfInBounds_toArray, List.set_cons_zero, List.set_cons_succ]
    refine wpAnyH_take (i := 1) (v := .pointer (some ⟨t, 0, none⟩)) rfl (by kernel_rfl) (by kernel_rfl) (by kernel_rfl) (fun _ _ _ h => h) (.inl ⟨rfl, fun _ _ => by simp [execOp, go_sem]⟩) hS1 ?_
    simp only [List.getElem_toArray, List.getElem_cons_succ, List.getElem_cons_zero, Act.put, List.setIfInBounds_toArray, List.set_cons_zero, List.set_cons_succ]
    refine wpAnyH_take (i := 2) (v := .pointer (some ⟨t, 3, none⟩)) rfl (by kernel_rfl) (by kernel_rfl) (by kernel_rfl) (fun _ _ _ h => h) (.inl ⟨rfl, fun _ _ => by simp [execOp, go_sem]⟩) hS1 ?_
    simp only [List.getElem_toArray, List.getElem_cons_succ, List.getElem_cons_zero, Act.put, List.setIfInBounds_toArray, List.set_cons_zero, List.set_cons_succ]
    refine wpAnyH_take (i := 3) (v := .slice (some ⟨g, 0, none⟩) n cap) rfl (by kernel_rfl) (by kernel_rfl) (by kernel_rfl) (fun _ _ _ h => h) (.inl ⟨rfl, fun w' hw' => by have hcc := hw'.1; simp [execOp, go_sem, hcc]⟩) hS1 ?_
    simp only [List.getElem_toArray, List.getElem_cons_succ, List.getElem_cons_zero, Act.put, List.setIfInBounds_toArray, List.set_cons_zero, List.set_cons_succ]
    refine wpAnyH_take (i := 4) (v := .int .i64 (x : Int)) rfl (by kernel_rfl) (by kernel_rfl) (by kernel_rfl) (fun _ _ _ h => h) (.inl ⟨rfl, fun _ _ => by simp [execOp, go_sem]⟩) hS1 ?_
    simp only [List.getElem_toArray, List.getElem_cons_succ, List.getElem_cons_zero, Act.put, List.setIfInBounds_toArray, List.set_cons_zero, List.set_cons_succ]
    refine wpAnyH_take (i := 5) (v := .agg #[.int .u32 (k.s : Int), .int .u32 (k.d : Int), .int .u16 (k.p : Int), .int .u16 (k.q : Int), .int .u8 (k.r : Int)]) rfl (by kernel_rfl) (by kernel_rfl) (by kernel_rfl) (fun _ _ _ h => h) (yieldsIf_load_mid rfl 36 (.tmp 6) rfl w.heap.size 0 rfl [.int .u32 (k.s : Int), .int .u32 (k.d : Int), .int .u16 (k.p : Int), .int .u16 (k.q : Int), .int .u8 (k.r : Int)] _ (fun w' hw' => by have := World.rangeAt_of_block hw'.2 0 5; simpa using this) Try.underlying36 rfl (by kernel_rfl)) hS1 ?_
    simp only [List.getElem_toArray, List.getElem_cons_succ, List.getElem_cons_zero, Act.put, List.setIfInBounds_toArray, List.set_cons_zero, List.set_cons_succ]
    refine wpAnyH_take (i := 6) (v := .int .i64 y) rfl (by kernel_rfl) (by kernel_rfl) (by kernel_rfl) (fun _ _ _ h => h) (.inl ⟨rfl, fun _ _ => by simp [execOp, go_sem]⟩) hS1 ?_
    simp only [List.getElem_toArray, List.getElem_cons_succ, List.getElem_cons_zero, Act.put, List.setIfInBounds_toArray, List.set_cons_zero, List.set_cons_succ]
    refine wpAnyH_take (i := 7) (v := .agg #[.int .i64 1, .int .u32 (k.s : Int), .int .u32 (k.d : Int), .int .u16 (k.p : Int), .int .u16 (k.q : Int), .int .u8 (k.r : Int), .int .i64 y]) rfl (by kernel_rfl) (by kernel_rfl) (by kernel_rfl) (fun _ _ _ h => h) (.inl ⟨rfl, fun _ _ => by simp [execOp, go_sem]⟩) hS1 ?_
    simp only [List.getElem_toArray, List.getElem_cons_succ, List.getElem_cons_zero, Act.put, List.setIfInBounds_toArray, List.set_cons_zero, List.set_cons_succ]
    refine wpAnyH_take (i := 8) (v := .pointer (some ⟨g, x * 7, none⟩)) rfl (by kernel_rfl) (by kernel_rfl) (by kernel_rfl) (fun _ _ _ h => h) (yieldsIf_index rfl 60 (.tmp 34) (.tmp 35) rfl _ (fun w => by simp [Instr.indexAt, go_sem, hix, hix2])) hS1 ?_
    simp only [List.getElem_toArray, List.getElem_cons_succ, List.getElem_cons_zero, Act.put, List.setIfInBounds_toArray, List.set_cons_zero, List.set_cons_succ]
    refine wpAnyH_all (rs := [9]) (by kernel_rfl) (by simp) ?_
    intro i hi
    simp only [List.mem_cons, List.not_mem_nil, or_false] at hi
    subst hi
    refine wpOp_of_wp rfl rfl (fun K' hK' => ?_)
    refine wp_storeL (.tmp 39) (.tmp 38) rfl 0 g n cap l HT3.out.2.1 x hx (⟨1, k, y⟩ : SlI) rfl rfl (fun w6 hr6 hg6 => hK' _ _ ⟨?_, ?_⟩)
    · obtain ⟨k1, k2⟩ := Tab.over rfl HT3.out.drew hr6 hg6
      exact ⟨(blk4 k1.1).2.2.2, (HK3.out.moved k2.undrew).1⟩
    · refine wpAnyH_done (by kernel_rfl) ?_ _
      rw [HSet.out] at hr6
      obtain ⟨k1, k2⟩ := Tab.over rfl HT3.out.drew hr6 hg6
      have HT6 : Hid (Tab w6 t (.slice (some ⟨g, 0, none⟩) n cap) M (c + 1) sp (l.set x ⟨1, k, y⟩)) := k1
      have HM6 : Hid (Moved w w6 t (.slice (some ⟨g, 0, none⟩) n cap) (.slice (some ⟨g, 0, none⟩) n cap)) := HM3.out.trans k2.undrew
      clear k1 k2 hr6 hg6 hK' HT3 HM3 HK3 HKB hS1
      simp only [List.getElem_toArray, List.getElem_cons_succ, List.getElem_cons_zero, Act.put, List.setIfInBounds_toArray, List.set_cons_zero, List.set_cons_succ]
      go_wp2_with (fail)
      go_end0
      exact ⟨rfl, HT6.out, HM6.out⟩
end Go.Proofs.Ythfjdoenofkghaa
