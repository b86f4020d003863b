/-
  shrink. Written by tools/mkTrH.py.
-/
import Derived.Test.YtfbkjghipahipaaTrJ
import Derived.ChangeKeysEq
namespace Go.Proofs.Ytfbkjghipahipaa
open Go.RowKit
set_option linter.unusedVariables false
set_option linter.unusedSimpArgs false

theorem eqK (a b : Nat) (w : World) : (Op.equalIn 9999 68 (.agg #[.int .i64 (a : Int), .int .i64 (b : Int)]) (.agg #[.int .i64 0, .int .i64 0])).run Try.prog w = .ok (a == 0 && b == 0) w := by
  obtain ⟨i0, hi⟩ : ∃ i0, Try.prog.info? 3 = some i0 := by
    cases hq : Try.prog.info? 3 with
    | none => have : (Try.prog.info? 3).isSome = true := by kernel_rfl
              rw [hq] at this; cases this
    | some i => exact ⟨i, rfl⟩
  have hc : Try.prog.cellsOf 3 = 1 := by kernel_rfl
  have he : ∀ x : Nat, (Op.equalIn 9998 3 (.int .i64 (x : Int)) (.int .i64 0)).run Try.prog w = .ok (x == 0) w := fun x => by
    rw [run_equalIn_int w 9997 3 .i64 .i64 _ _ Try.underlying3]
    congr 1
    by_cases e : x = 0
    · rw [e]; simp
    · have : ¬ ((x : Nat) : Int) = 0 := by omega
      simp only [beq_eq_false_iff_ne.2 e, beq_eq_false_iff_ne.2 this]
  have p0 : ∀ (x y : Value), x.oneCell' = true → (part 3 #[.int .i64 (a : Int), .int .i64 (b : Int)] 0).run Try.prog w = .ok (.int .i64 (a : Int)) w := fun _ _ _ => by simp [part, go_sem]
  have p1 : (part 3 #[.int .i64 (a : Int), .int .i64 (b : Int)] 1).run Try.prog w = .ok (.int .i64 (b : Int)) w := by simp [part, go_sem]
  have q0 : (part 3 #[.int .i64 (0 : Int), .int .i64 (0 : Int)] 0).run Try.prog w = .ok (.int .i64 0) w := by simp [part, go_sem]
  have q1 : (part 3 #[.int .i64 (0 : Int), .int .i64 (0 : Int)] 1).run Try.prog w = .ok (.int .i64 0) w := by simp [part, go_sem]
  have p0' := p0 (.int .i64 0) (.int .i64 0) rfl
  rw [run_equalIn_array w 9998 _ _ Try.underlying68 hi, hc, show List.range 2 = [0, 1] from rfl]
  simp only [Op.eqItems, Sem.run_bind, Nat.zero_mul, Nat.one_mul, p0', q0, p1, q1, Result.andThen_ok, he]
  cases ha : (a == 0) <;> cases hb : (b == 0) <;> simp [p1, q1, he, hb]
theorem eqN_any (d : Nd) (w : World) : Sem.run Try.prog (binOp .eql 70 (.agg #[.int .i64 (d.a : Int), .int .i64 (d.b : Int), .bool d.h, .int .i64 d.v]) (.agg #[.int .i64 0, .int .i64 0, .bool false, .int .i64 0])) w = .ok (.bool (isZ d)) w := by
  obtain ⟨a, b, h, v⟩ := d
  simp [go_sem, isZ]
  rw [eqK a b w]
  simp only [Result.andThen_ok]
  by_cases h1 : a = 0 <;> by_cases h2 : b = 0 <;> cases h <;> by_cases h3 : v = 0 <;> simp [h1, h2, h3]
set_option maxHeartbeats 8000000 in
set_option maxRecDepth 20000 in
theorem shrinkZ (k n t : Nat) (v : Value) (W M : Nat) (A : List Nd) (r0 f c r hw : Nat) (w : World) (h : Tri w t v W M A r0 f c) (h1 : r ≠ 0) (hr : r ≤ A.length) (hA : A.length ≤ 4294967200) (hc0 : 1 ≤ c) (hc : c ≤ 4294967200) (hn : n ≤ 32) :
    Calls Try.prog 35 #[.pointer (some ⟨t, 0, none⟩), .int .i64 (r : Int), .int .u32 (k : Int), .int .i64 (n : Int), .int .i64 (n : Int)] w fun e w' => e = .returned (.int .i64 ((shr 0 hw ⟨A, f, c⟩ r k).2 : Int)) ∧ ∃ v', Tri w' t v' W M (shr 0 hw ⟨A, f, c⟩ r k).1.A r0 (shr 0 hw ⟨A, f, c⟩ r k).1.f (shr 0 hw ⟨A, f, c⟩ r k).1.c ∧ Moved w w' t v v' := by
  rw [shr0]
  have hlt := h.lt
  obtain ⟨q, rfl⟩ : ∃ q, r = q + 1 := ⟨r - 1, by omega⟩
  have hnd := nodeC t v W M A r0 f c (q + 1) w h (by omega) (by omega) hr
  have hqq : ((q + 1 : Nat) : Int) = (q : Int) + 1 := by omega
  rw [hqq] at hnd ⊢
  obtain ⟨d0, hd0⟩ : ∃ d0, d0 = gt A (q + 1) := ⟨_, rfl⟩
  rw [← hd0] at hnd
  have HD : Hid (d0 = gt A (q + 1)) := hd0
  have HT : Hid (Tri w t v W M A r0 f c) := h
  clear hd0 h
  go_enter Try.func35, Try.ntmps35
  go_wp2_with (fail)
  refine hnd.mono ?_
  rintro e w2 ⟨rfl, hb⟩
  have HT2 : Hid (Tri w2 t v W M A r0 f c) := HT.out.on hb
  have HM2 : Hid (Moved w w2 t v v) := Moved.of_below hb
  have HE : Hid (w.heap.size ≤ w2.heap.size) := hb.size
  clear hb hnd HT
  have hx2 : (w2.alloc (.cells #[.int .i64 (d0.a : Int), .int .i64 (d0.b : Int), .bool d0.h, .int .i64 d0.v] 70)).heap[w2.heap.size]? = some (.cells #[.int .i64 (d0.a : Int), .int .i64 (d0.b : Int), .bool d0.h, .int .i64 d0.v] 70) := blk_new w2 _
  have bA : Below w2.heap.size w2 (w2.alloc (.cells #[.int .i64 (d0.a : Int), .int .i64 (d0.b : Int), .bool d0.h, .int .i64 d0.v] 70)) := (Below.refl _ _).alloc (Nat.le_refl _) _
  have HT3 : Hid (Tri (w2.alloc (.cells #[.int .i64 (d0.a : Int), .int .i64 (d0.b : Int), .bool d0.h, .int .i64 d0.v] 70)) t v W M A r0 f c) := HT2.out.on bA
  have HM3 : Hid (Moved w (w2.alloc (.cells #[.int .i64 (d0.a : Int), .int .i64 (d0.b : Int), .bool d0.h, .int .i64 d0.v] 70)) t v v) := HM2.out.trans (Moved.of_below bA)
  have HX3 : Hid (Kb (w2.alloc (.cells #[.int .i64 (d0.a : Int), .int .i64 (d0.b : Int), .bool d0.h, .int .i64 d0.v] 70)) t v w2.heap.size (.cells #[.int .i64 (d0.a : Int), .int .i64 (d0.b : Int), .bool d0.h, .int .i64 d0.v] 70)) := ⟨hx2, by have := HT2.out.lt; omega, fun e => by have := HT2.out.own e; omega⟩
  have hlt2 := HT2.out.lt
  have hne2 : ¬ t = w2.heap.size := by omega
  obtain ⟨x0, x1, x2, x3⟩ := blk4 hx2
  clear bA
  have EF : Hid (fin ⟨A, f, c⟩ (q + 1) { gt A (q + 1) with h := false, v := 0 } = fin ⟨A, f, c⟩ (q + 1) ⟨d0.a, d0.b, false, 0⟩) := by show _ = _; rw [HD.out]
  have bA : Below w2.heap.size w2 (w2.alloc (.cells #[.int .i64 (d0.a : Int), .int .i64 (d0.b : Int), .bool false, .int .i64 0] 70)) := (Below.refl _ _).alloc (Nat.le_refl _) _
  have HT5 : Hid (Tri (w2.alloc (.cells #[.int .i64 (d0.a : Int), .int .i64 (d0.b : Int), .bool false, .int .i64 0] 70)) t v W M A r0 f c) := HT2.out.on bA
  have HM5 : Hid (Moved w (w2.alloc (.cells #[.int .i64 (d0.a : Int), .int .i64 (d0.b : Int), .bool false, .int .i64 0] 70)) t v v) := HM2.out.trans (Moved.of_below bA)
  have HX5 : Hid (Kb (w2.alloc (.cells #[.int .i64 (d0.a : Int), .int .i64 (d0.b : Int), .bool false, .int .i64 0] 70)) t v w2.heap.size (.cells #[.int .i64 (((⟨d0.a, d0.b, false, 0⟩ : Nd)).a : Int), .int .i64 (((⟨d0.a, d0.b, false, 0⟩ : Nd)).b : Int), .bool ((⟨d0.a, d0.b, false, 0⟩ : Nd)).h, .int .i64 ((⟨d0.a, d0.b, false, 0⟩ : Nd)).v] 70)) := ⟨blk_new w2 _, by have := HT2.out.lt; omega, fun e => by have := HT2.out.own e; omega⟩
  clear bA hx2 x0 x1 x2 x3 HX3 HT3 HM3 HM2 HT2
  obtain ⟨A5, hA5⟩ : ∃ A5, A5 = A := ⟨_, rfl⟩
  obtain ⟨f5, hf5⟩ : ∃ f5, f5 = f := ⟨_, rfl⟩
  obtain ⟨c5, hc5⟩ : ∃ c5, c5 = c := ⟨_, rfl⟩
  subst hA5 hf5 hc5
  have hek := fun V => eqK d0.a d0.b V
  by_cases hz : isZ ⟨d0.a, d0.b, false, 0⟩ = true
  · have hB : (d0.a == 0 && d0.b == 0) = true := by have := (isZ_iff _).1 hz; simp at this; simp [this]
    rw [hB] at hek
    have HF : Hid (fin ⟨A5, f5, c5⟩ (q + 1) ⟨d0.a, d0.b, false, 0⟩ = (⟨A5.set q ⟨f5, 0, false, 0⟩, q + 1, c5 - 1⟩, 0)) := by show _ = _; unfold fin; rw [if_pos hz, Nat.add_sub_cancel]
    have hgw := giveC t v W M A5 r0 q f5 c5 _ HT5.out (by omega) (by omega) (by omega) (by omega)
    go_wp2_with (fail)
    refine hgw.mono ?_
    rintro e w7 ⟨rfl, v7, k1, k2⟩
    have HT7 : Hid (Tri w7 t v7 W M (A5.set q ⟨f5, 0, false, 0⟩) r0 (q + 1) (c5 - 1)) := k1
    have HM7 : Hid (Moved w w7 t v v7) := HM5.out.trans k2
    clear k1 k2 hgw
    go_wp2_with (fail)
    go_ret
    rw [EF.out, HF.out]
    exact ⟨rfl, _, HT7.out, HM7.out⟩
  · have hB : (d0.a == 0 && d0.b == 0) = false := by
      rw [Bool.eq_false_iff]; intro e; apply hz; simp at e; exact (isZ_iff _).2 ⟨e.1, e.2, rfl, rfl⟩
    rw [hB] at hek
    have HF : Hid (fin ⟨A5, f5, c5⟩ (q + 1) ⟨d0.a, d0.b, false, 0⟩ = (⟨A5.set q ⟨d0.a, d0.b, false, 0⟩, f5, c5⟩, q + 1)) := by show _ = _; unfold fin; rw [if_neg hz, Nat.add_sub_cancel]
    go_upto_region 9 with (fail)
    generalize w2.alloc (.cells #[.int .i64 (d0.a : Int), .int .i64 (d0.b : Int), .bool false, .int .i64 0] 70) = W5 at *
    generalize w2.heap.size = XB at *
    clear w2 hek hB hz
    obtain ⟨x5, hx5⟩ : ∃ x5 : Nd, x5 = ⟨d0.a, d0.b, false, 0⟩ := ⟨_, rfl⟩
    have HX6 : Hid (Kb W5 t v XB (.cells #[.int .i64 (x5.a : Int), .int .i64 (x5.b : Int), .bool x5.h, .int .i64 x5.v] 70)) := by rw [hx5]; exact HX5.out
    rw [← hx5] at HF EF
    clear hx5 HX5
    have HX5 := HX6
    clear HX6
    obtain ⟨g, cap, hv5, hcap, hg⟩ := HT5.out.filled (by omega)
    obtain ⟨n, hn⟩ : ∃ n, n = A5.length := ⟨_, rfl⟩
    have HS : Hid (A5.take q ++ [x5] ++ A5.drop (q + [x5].length) = A5.set q x5) := take_set A5 q x5 (by omega)
    have hqn : q < n := by omega
    have hn0 : (n : Int) ≤ 4294967295 := by omega
    rw [← hn] at hcap hv5
    clear hn
    subst hv5
    have hix : (q : Int) < (n : Int) := by omega
    have hix2 : ¬ n ≤ q := by omega
    have hwq : IntKind.i64.wrap (q : Int) = (q : Int) := by rw [IntKind.wrap_i64]; omega
    refine wp_region_held_drew (S := fun w' => w'.cell? ⟨t, 2, none⟩ = some (.slice (some ⟨g, 0, none⟩) n cap) ∧ w'.heap[XB]? = some (.cells #[.int .i64 (x5.a : Int), .int .i64 (x5.b : Int), .bool x5.h, .int .i64 x5.v] 70)) (by kernel_rfl) ⟨(blk6 HT5.out.1).2.2.1, HX5.out.1⟩ (fun hS1 => ?_)
    show wpAnyH _ _ _ _ _ 9 _ _ _
    refine wpAnyH_take (i := 0) (v := .pointer (some ⟨t, 0, none⟩)) rfl (by kernel_rfl) (by kernel_rfl) (by kernel_rfl) (fun _ _ _ h => h) (.inl ⟨rfl, fun _ _ => by simp [execOp, go_sem]⟩) hS1 ?_
    simp only [List.getElem_toArray, List.getElem_cons_succ, List.getElem_cons_zero, Act.put, List.setIfInBounds_toArray, List.set_cons_zero, List.set_cons_succ]
    refine wpAnyH_take (i := 1) (v := .pointer (some ⟨t, 0, none⟩)) rfl (by kernel_rfl) (by kernel_rfl) (by kernel_rfl) (fun _ _ _ h => h) (.inl ⟨rfl, fun _ _ => by simp [execOp, go_sem]⟩) hS1 ?_
    simp only [List.getElem_toArray, List.getElem_cons_succ, List.getElem_cons_zero, Act.put, List.setIfInBounds_toArray, List.set_cons_zero, List.set_cons_succ]
    refine wpAnyH_take (i := 2) (v := .pointer (some ⟨t, 2, none⟩)) rfl (by kernel_rfl) (by kernel_rfl) (by kernel_rfl) (fun _ _ _ h => h) (.inl ⟨rfl, fun _ _ => by simp [execOp, go_sem]⟩) hS1 ?_
    simp only [List.getElem_toArray, List.getElem_cons_succ, List.getElem_cons_zero, Act.put, List.setIfInBounds_toArray, List.set_cons_zero, List.set_cons_succ]
    refine wpAnyH_take (i := 3) (v := .slice (some ⟨g, 0, none⟩) n cap) rfl (by kernel_rfl) (by kernel_rfl) (by kernel_rfl) (fun _ _ _ h => h) (.inl ⟨rfl, fun w' hw' => by have hcc := hw'.1; simp [execOp, go_sem, hcc]⟩) hS1 ?_
    simp only [List.getElem_toArray, List.getElem_cons_succ, List.getElem_cons_zero, Act.put, List.setIfInBounds_toArray, List.set_cons_zero, List.set_cons_succ]
    refine wpAnyH_take (i := 4) (v := .int .i64 ((q : Int) + 1)) rfl (by kernel_rfl) (by kernel_rfl) (by kernel_rfl) (fun _ _ _ h => h) (.inl ⟨rfl, fun _ _ => by simp [execOp, go_sem]⟩) hS1 ?_
    simp only [List.getElem_toArray, List.getElem_cons_succ, List.getElem_cons_zero, Act.put, List.setIfInBounds_toArray, List.set_cons_zero, List.set_cons_succ]
    refine wpAnyH_take (i := 5) (v := .int .i64 (q : Int)) rfl (by kernel_rfl) (by kernel_rfl) (by kernel_rfl) (fun _ _ _ h => h) (.inl ⟨rfl, fun _ _ => by simp [execOp, go_sem, hwq]⟩) hS1 ?_
    simp only [List.getElem_toArray, List.getElem_cons_succ, List.getElem_cons_zero, Act.put, List.setIfInBounds_toArray, List.set_cons_zero, List.set_cons_succ]
    refine wpAnyH_take (i := 6) (v := .agg #[.int .i64 (x5.a : Int), .int .i64 (x5.b : Int), .bool x5.h, .int .i64 x5.v]) rfl (by kernel_rfl) (by kernel_rfl) (by kernel_rfl) (fun _ _ _ h => h) (yieldsIf_load_mid rfl 70 (.tmp 11) rfl XB 0 rfl [.int .i64 (x5.a : Int), .int .i64 (x5.b : Int), .bool x5.h, .int .i64 x5.v] _ (fun w' hw' => by have := World.rangeAt_of_block hw'.2 0 4; simpa using this) Try.underlying70 rfl (by kernel_rfl)) hS1 ?_
    simp only [List.getElem_toArray, List.getElem_cons_succ, List.getElem_cons_zero, Act.put, List.setIfInBounds_toArray, List.set_cons_zero, List.set_cons_succ]
    refine wpAnyH_take (i := 7) (v := .pointer (some ⟨g, q * 4, none⟩)) rfl (by kernel_rfl) (by kernel_rfl) (by kernel_rfl) (fun _ _ _ h => h) (yieldsIf_index rfl 56 (.tmp 47) (.tmp 49) rfl _ (fun w => by simp [Instr.indexAt, go_sem, hix, hix2])) hS1 ?_
    simp only [List.getElem_toArray, List.getElem_cons_succ, List.getElem_cons_zero, Act.put, List.setIfInBounds_toArray, List.set_cons_zero, List.set_cons_succ]
    refine wpAnyH_all (rs := [8]) (by kernel_rfl) (by simp) ?_
    intro i hi
    simp only [List.mem_cons, List.not_mem_nil, or_false] at hi
    subst hi
    refine wpOp_of_wp rfl rfl (fun K' hK' => ?_)
    refine wp_storeN (.tmp 51) (.tmp 50) rfl 0 g n cap A5 HT5.out.2.1 q hqn x5 rfl rfl (fun w6 hr6 hg6 => hK' _ _ ⟨?_, ?_⟩)
    · obtain ⟨k1, k2⟩ := Tri.over rfl HT5.out.drew hr6 hg6
      exact ⟨(blk6 k1.1).2.2.1, (HX5.out.moved k2.undrew).1⟩
    · refine wpAnyH_done (by kernel_rfl) ?_ _
      rw [HS.out] at hr6
      obtain ⟨k1, k2⟩ := Tri.over rfl HT5.out.drew hr6 hg6
      have HT6 : Hid (Tri w6 t (.slice (some ⟨g, 0, none⟩) n cap) W M (A5.set q x5) r0 f5 c5) := k1
      have HM6 : Hid (Moved w w6 t _ (.slice (some ⟨g, 0, none⟩) n cap)) := HM5.out.trans k2.undrew
      clear k1 k2 hr6 hg6 hK' HT5 HM5 HX5 hS1
      simp only [List.getElem_toArray, List.getElem_cons_succ, List.getElem_cons_zero, Act.put, List.setIfInBounds_toArray, List.set_cons_zero, List.set_cons_succ]
      go_wp2_with (fail)
      go_ret
      rw [EF.out, HF.out]
      exact ⟨rfl, _, HT6.out, HM6.out⟩
end Go.Proofs.Ytfbkjghipahipaa
