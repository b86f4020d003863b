/-
  grow. Written by tools/mkTrH.py.
-/
import Derived.Test.YtfbkjghipahipaaTrH
namespace Go.Proofs.Ytfbkjghipahipaa
open Go.RowKit
set_option linter.unusedVariables false
set_option linter.unusedSimpArgs false

theorem Kb.set {w : World} {t : Nat} {v : Value} {B j : Nat} {cs : Array Value} {ty : TypeId} {fr : Nat × Nat} (h : Kb w t v B (.cells cs ty fr)) (u : Value) : Kb (w.setCell ⟨B, j, none⟩ u) t v B (.cells (cs.setIfInBounds j u) ty fr) := ⟨blk_set h.1 u, h.2⟩
theorem Tri.far {w : World} {t : Nat} {v : Value} {W M : Nat} {A : List Nd} {r f c B j : Nat} (h : Tri w t v W M A r f c) (h1 : B ≠ t) (h2 : v.ownBlock ≠ some B) (u : Value) : Tri (w.setCell ⟨B, j, none⟩ u) t v W M A r f c := by
  refine ⟨blk_far h.1 (fun e => h1 e.symm) u, ⟨h.2.1.1, ?_⟩, h.2.2⟩
  rcases h.2.1.2 with k | ⟨g, cap, cur, hv, hg, hh, q⟩
  · exact .inl k
  · exact .inr ⟨g, cap, cur, hv, hg, blk_far hh (fun e => h2 (by rw [hv, ← e]; rfl)) u, q⟩
theorem Moved.set {w w1 : World} {t : Nat} {v v1 : Value} {B j : Nat} (m : Moved w w1 t v v1) (h : w.heap.size ≤ B) (u : Value) : Moved w (w1.setCell ⟨B, j, none⟩ u) t v v1 :=
  ⟨m.os, m.tape, m.output, by rw [World.size_setCell]; exact m.size, fun k hk h1 h2 => by rw [Below.heap_setCell w1 ⟨B, j, none⟩ u k (fun e => by simp only at e; omega)]; exact m.block k hk h1 h2, m.own⟩
theorem Moved.drewR {w w1 : World} {t : Nat} {v v1 : Value} (m : Moved w w1 t v v1) : Moved w w1.drew t v v1 := ⟨m.os, m.tape, m.output, m.size, m.block, m.own⟩
theorem takC (t : Nat) (v : Value) (W M : Nat) (A : List Nd) (r f c : Nat) (w : World) (h : Tri w t v W M A r f c) (bd : Bd ⟨A, f, c⟩) (hA : A.length ≤ 4294967295) (hc : c ≤ 4294967295) :
    Calls Try.prog 43 #[.pointer (some ⟨t, 0, none⟩)] w fun e w' => e = .returned (.int .i64 ((tak ⟨A, f, c⟩).2 : Int)) ∧ ∃ v', Tri w' t v' W M (tak ⟨A, f, c⟩).1.A r (tak ⟨A, f, c⟩).1.f (tak ⟨A, f, c⟩).1.c ∧ Moved w w' t v v' := by
  unfold tak
  dsimp only
  by_cases hf : f = 0
  · subst hf; rw [if_pos rfl]; exact take0 t v W M A r c w h hA hc
  · rw [if_neg hf]
    obtain ⟨q, rfl⟩ : ∃ q, f = q + 1 := ⟨f - 1, by omega⟩
    have := bd.1
    dsimp only at this
    exact take1 t v W M A r q c w h hA hc (by omega)
set_option maxHeartbeats 8000000 in
set_option maxRecDepth 20000 in
theorem growZ (x : En) (t : Nat) (v : Value) (W M : Nat) (A : List Nd) (r0 f c r : Nat) (w : World) (h : Tri w t v W M A r0 f c) (bd : Bd ⟨A, f, c⟩) (hr : r ≤ A.length) (hA : A.length ≤ 4294967200) (hc : c ≤ 4294967200) (hn : x.n ≤ 32) (hw : Nat) :
    Calls Try.prog 34 #[.pointer (some ⟨t, 0, none⟩), .int .i64 (r : Int), .agg #[.int .u32 (x.k : Int), .int .i64 (x.n : Int), .int .i64 x.v], .int .i64 (x.n : Int)] w fun e w' => e = .returned (.int .i64 ((grw 0 hw ⟨A, f, c⟩ r x).2 : Int)) ∧ ∃ v', Tri w' t v' W M (grw 0 hw ⟨A, f, c⟩ r x).1.A r0 (grw 0 hw ⟨A, f, c⟩ r x).1.f (grw 0 hw ⟨A, f, c⟩ r x).1.c ∧ Moved w w' t v v' := by
  rw [grw0]
  have hlt := h.lt
  have HT0 : Hid (Tri (w.alloc (.cells #[.int .u32 (x.k : Int), .int .i64 (x.n : Int), .int .i64 x.v] 45)) t v W M A r0 f c) := h.on ((Below.refl _ _).alloc (Nat.le_refl _) _)
  have HM0 : Hid (Moved w (w.alloc (.cells #[.int .u32 (x.k : Int), .int .i64 (x.n : Int), .int .i64 x.v] 45)) t v v) := Moved.of_below ((Below.refl _ _).alloc (Nat.le_refl _) _)
  have HK0 : Hid (Kb (w.alloc (.cells #[.int .u32 (x.k : Int), .int .i64 (x.n : Int), .int .i64 x.v] 45)) t v w.heap.size (.cells #[.int .u32 (x.k : Int), .int .i64 (x.n : Int), .int .i64 x.v] 45)) := ⟨blk_new w _, by omega, fun e => by have := h.own e; omega⟩
  obtain ⟨b1, b2, b3, b4, b5, b6⟩ := bd_tkr (r := r) bd hr
  have HTk : Hid (r = 0 → Calls Try.prog 43 #[.pointer (some ⟨t, 0, none⟩)] (w.alloc (.cells #[.int .u32 (x.k : Int), .int .i64 (x.n : Int), .int .i64 x.v] 45)) fun e w' => e = .returned (.int .i64 ((tkr ⟨A, f, c⟩ r).2 : Int)) ∧ ∃ v', Tri w' t v' W M (tkr ⟨A, f, c⟩ r).1.A r0 (tkr ⟨A, f, c⟩ r).1.f (tkr ⟨A, f, c⟩ r).1.c ∧ Moved (w.alloc (.cells #[.int .u32 (x.k : Int), .int .i64 (x.n : Int), .int .i64 x.v] 45)) w' t v v') := fun e => by
    have := takC t v W M A r0 f c (w.alloc (.cells #[.int .u32 (x.k : Int), .int .i64 (x.n : Int), .int .i64 x.v] 45)) HT0.out bd (by omega) (by omega)
    unfold tkr; rw [if_pos e]; exact this
  have HTn : Hid (r ≠ 0 → tkr ⟨A, f, c⟩ r = (⟨A, f, c⟩, r)) := fun e => by show tkr _ _ = _; unfold tkr; rw [if_neg e]
  generalize tkr ⟨A, f, c⟩ r = T at *
  obtain ⟨⟨A1, f1, c1⟩, r1⟩ := T
  dsimp only at *
  obtain ⟨q, rfl⟩ : ∃ q, r1 = q + 1 := ⟨r1 - 1, by omega⟩
  clear h bd
  go_enter Try.func34, Try.ntmps34
  go_upto_if 12 with (fail)
  go_cut [1] (fun nv wx => ∃ v1 : Value, nv = .int .i64 ((q : Int) + 1) ∧ Hid (Tri wx t v1 W M A1 r0 f1 c1) ∧ Hid (Moved w wx t v v1) ∧ Hid (Kb wx t v1 w.heap.size (.cells #[.int .u32 (x.k : Int), .int .i64 (x.n : Int), .int .i64 x.v] 45)))
  case first =>
    by_cases hz : r = 0
    · have hz' : (r : Int) = 0 := by omega
      have htk := HTk.out hz
      go_wp2_with (fail)
      refine htk.mono ?_
      rintro e w1 ⟨rfl, v1, k1, k2⟩
      have K1 : Hid (Tri w1 t v1 W M A1 r0 f1 c1) := k1
      have K2 : Hid (Moved (w.alloc (.cells #[.int .u32 (x.k : Int), .int .i64 (x.n : Int), .int .i64 x.v] 45)) w1 t v v1) := k2
      clear k1 k2 htk
      go_wp2_with (fail)
      go_meet
      case rel => exact ⟨v1, by first | rfl | rw [show ((q + 1 : Nat) : Int) = (q : Int) + 1 by omega], K1.out, HM0.out.trans K2.out, HK0.out.moved K2.out⟩
    · have hz' : ¬ (r : Int) = 0 := by omega
      have e := HTn.out hz
      cases e
      have hqq : (((q + 1 : Nat) : Int)) = (q : Int) + 1 := by omega
      rw [hqq] at hz' ⊢
      go_wp2_with (fail)
      go_meet
      case rel => exact ⟨v, rfl, HT0.out, HM0.out, HK0.out⟩
  case rest =>
    obtain ⟨v1, rfl, HT1, HM1, HK1⟩ := hcut
    have hnd := nodeC t v1 W M A1 r0 f1 c1 (q + 1) _ HT1.out (by omega) (by omega) b3
    rw [show ((q + 1 : Nat) : Int) = (q : Int) + 1 by omega] at hnd
    obtain ⟨d0, hd0⟩ : ∃ d0, d0 = gt A1 (q + 1) := ⟨_, rfl⟩
    rw [← hd0] at hnd
    have HD : Hid (d0 = gt A1 (q + 1)) := hd0
    clear hd0
    go_wp2_with (fail)
    refine hnd.mono ?_
    rintro e w2 ⟨rfl, hb⟩
    have HT2 : Hid (Tri w2 t v1 W M A1 r0 f1 c1) := HT1.out.on hb
    have HM2 : Hid (Moved w w2 t v v1) := HM1.out.trans (Moved.of_below hb)
    have HK2 : Hid (Kb w2 t v1 w.heap.size (.cells #[.int .u32 (x.k : Int), .int .i64 (x.n : Int), .int .i64 x.v] 45)) := HK1.out.on hb
    clear hb hnd HT1 HM1 HK1 HTk HTn HT0 HM0 HK0
    have hx2 : (w2.alloc (.cells #[.int .i64 (d0.a : Int), .int .i64 (d0.b : Int), .bool d0.h, .int .i64 d0.v] 70)).heap[w2.heap.size]? = some (.cells #[.int .i64 (d0.a : Int), .int .i64 (d0.b : Int), .bool d0.h, .int .i64 d0.v] 70) := blk_new w2 _
    have bA : Below w2.heap.size w2 (w2.alloc (.cells #[.int .i64 (d0.a : Int), .int .i64 (d0.b : Int), .bool d0.h, .int .i64 d0.v] 70)) := (Below.refl _ _).alloc (Nat.le_refl _) _
    have HT3 : Hid (Tri (w2.alloc (.cells #[.int .i64 (d0.a : Int), .int .i64 (d0.b : Int), .bool d0.h, .int .i64 d0.v] 70)) t v1 W M A1 r0 f1 c1) := HT2.out.on bA
    have HM3 : Hid (Moved w (w2.alloc (.cells #[.int .i64 (d0.a : Int), .int .i64 (d0.b : Int), .bool d0.h, .int .i64 d0.v] 70)) t v v1) := HM2.out.trans (Moved.of_below bA)
    have HK3 : Hid (Kb (w2.alloc (.cells #[.int .i64 (d0.a : Int), .int .i64 (d0.b : Int), .bool d0.h, .int .i64 d0.v] 70)) t v1 w.heap.size (.cells #[.int .u32 (x.k : Int), .int .i64 (x.n : Int), .int .i64 x.v] 45)) := HK2.out.on bA
    have HX3 : Hid (Kb (w2.alloc (.cells #[.int .i64 (d0.a : Int), .int .i64 (d0.b : Int), .bool d0.h, .int .i64 d0.v] 70)) t v1 w2.heap.size (.cells #[.int .i64 (d0.a : Int), .int .i64 (d0.b : Int), .bool d0.h, .int .i64 d0.v] 70)) := ⟨hx2, by have := HT2.out.lt; omega, fun e => by have := HT2.out.own e; omega⟩
    have HE : Hid (w.heap.size < w2.heap.size) := HK2.out.lt
    obtain ⟨y0, y1, y2⟩ := blk3 HK3.out.1
    obtain ⟨z0, z1, z2⟩ := blk3 HK2.out.1
    obtain ⟨x0, x1, x2, x3⟩ := blk4 hx2
    have hlt2 := HT2.out.lt
    have hne2 : ¬ t = w2.heap.size := by omega
    have hne3 : ¬ w.heap.size = w2.heap.size := by have := HE.out; omega
    clear bA HM2 HK2
    go_upto_region 5 with (fail)
    have hf2 := blk_free HX3.out.1 2
    have hf3 := blk_free HX3.out.1 3
    clear z0 z1 z2 hx2 x0 x1 x2 x3 y0 y1 y2 HT2
    generalize w2.alloc (.cells #[.int .i64 (d0.a : Int), .int .i64 (d0.b : Int), .bool d0.h, .int .i64 d0.v] 70) = W3 at *
    generalize w2.heap.size = XB at *
    clear w2
    obtain ⟨y0, y1, y2⟩ := blk3 HK3.out.1
    obtain ⟨x0, x1, x2, x3⟩ := blk4 HX3.out.1
    go_region
    go_upto_region 8 with (fail)
    obtain ⟨x5, hx5⟩ : ∃ x5 : Nd, x5 = { d0 with h := true, v := x.v } := ⟨_, rfl⟩
    have HX5 : Hid (Kb (((W3.setCell ⟨XB, 2, none⟩ (.bool true)).setCell ⟨XB, 3, none⟩ (.int .i64 x.v)).drew) t v1 XB (.cells #[.int .i64 (x5.a : Int), .int .i64 (x5.b : Int), .bool x5.h, .int .i64 x5.v] 70)) := by rw [hx5]; exact (HX3.out.set _).set _
    have HT5 : Hid (Tri (((W3.setCell ⟨XB, 2, none⟩ (.bool true)).setCell ⟨XB, 3, none⟩ (.int .i64 x.v)).drew) t v1 W M A1 r0 f1 c1) := (HT3.out.far HX3.out.2.1 HX3.out.2.2 _).far HX3.out.2.1 HX3.out.2.2 _
    have HM5 : Hid (Moved w (((W3.setCell ⟨XB, 2, none⟩ (.bool true)).setCell ⟨XB, 3, none⟩ (.int .i64 x.v)).drew) t v v1) := ((HM3.out.set (Nat.le_of_lt HE.out) _).set (Nat.le_of_lt HE.out) _).drewR
    have HD5 : Hid (A1.set q x5 = A1.set (q + 1 - 1) { gt A1 (q + 1) with h := true, v := x.v }) := by show _ = _; rw [hx5, HD.out, Nat.add_sub_cancel]
    generalize (((W3.setCell ⟨XB, 2, none⟩ (.bool true)).setCell ⟨XB, 3, none⟩ (.int .i64 x.v)).drew) = W5 at *
    clear y0 y1 y2 x0 x1 x2 x3 hf2 hf3 HX3 HT3 HM3 HK3 hx5 HD
    clear W3
    obtain ⟨A5, hA5⟩ : ∃ A5, A5 = A1 := ⟨_, rfl⟩
    obtain ⟨f5, hf5⟩ : ∃ f5, f5 = f1 := ⟨_, rfl⟩
    obtain ⟨c5, hc5⟩ : ∃ c5, c5 = c1 := ⟨_, rfl⟩
    subst hA5 hf5 hc5
    obtain ⟨g, cap, hv5, hcap, hg⟩ := HT5.out.filled (by omega)
    obtain ⟨n, hn⟩ : ∃ n, n = A5.length := ⟨_, rfl⟩
    have HS : Hid (A5.take q ++ [x5] ++ A5.drop (q + [x5].length) = A5.set q x5) := take_set A5 q x5 (by omega)
    have hqn : q < n := by omega
    have hn0 : (n : Int) ≤ 4294967295 := by omega
    rw [← hn] at hcap hv5
    clear hn
    subst hv5
    have hix : (q : Int) < (n : Int) := by omega
    have hix2 : ¬ n ≤ q := by omega
    have hwq : IntKind.i64.wrap (q : Int) = (q : Int) := by rw [IntKind.wrap_i64]; omega
    refine wp_region_held_drew (S := fun w' => w'.cell? ⟨t, 2, none⟩ = some (.slice (some ⟨g, 0, none⟩) n cap) ∧ w'.heap[XB]? = some (.cells #[.int .i64 (x5.a : Int), .int .i64 (x5.b : Int), .bool x5.h, .int .i64 x5.v] 70)) (by kernel_rfl) ⟨(blk6 HT5.out.1).2.2.1, HX5.out.1⟩ (fun hS1 => ?_)
    show wpAnyH _ _ _ _ _ 9 _ _ _
    refine wpAnyH_take (i := 0) (v := .pointer (some ⟨t, 0, none⟩)) rfl (by kernel_rfl) (by kernel_rfl) (by kernel_rfl) (fun _ _ _ h => h) (.inl ⟨rfl, fun _ _ => by simp [execOp, go_sem]⟩) hS1 ?_
    simp only [List.getElem_toArray, List.getElem_cons_succ, List.getElem_cons_zero, Act.put, List.setIfInBounds_toArray, List.set_cons_zero, List.set_cons_succ]
    refine wpAnyH_take (i := 1) (v := .pointer (some ⟨t, 0, none⟩)) rfl (by kernel_rfl) (by kernel_rfl) (by kernel_rfl) (fun _ _ _ h => h) (.inl ⟨rfl, fun _ _ => by simp [execOp, go_sem]⟩) hS1 ?_
    simp only [List.getElem_toArray, List.getElem_cons_succ, List.getElem_cons_zero, Act.put, List.setIfInBounds_toArray, List.set_cons_zero, List.set_cons_succ]
    refine wpAnyH_take (i := 2) (v := .pointer (some ⟨t, 2, none⟩)) rfl (by kernel_rfl) (by kernel_rfl) (by kernel_rfl) (fun _ _ _ h => h) (.inl ⟨rfl, fun _ _ => by simp [execOp, go_sem]⟩) hS1 ?_
    simp only [List.getElem_toArray, List.getElem_cons_succ, List.getElem_cons_zero, Act.put, List.setIfInBounds_toArray, List.set_cons_zero, List.set_cons_succ]
    refine wpAnyH_take (i := 3) (v := .slice (some ⟨g, 0, none⟩) n cap) rfl (by kernel_rfl) (by kernel_rfl) (by kernel_rfl) (fun _ _ _ h => h) (.inl ⟨rfl, fun w' hw' => by have hcc := hw'.1; simp [execOp, go_sem, hcc]⟩) hS1 ?_
    simp only [List.getElem_toArray, List.getElem_cons_succ, List.getElem_cons_zero, Act.put, List.setIfInBounds_toArray, List.set_cons_zero, List.set_cons_succ]
    refine wpAnyH_take (i := 4) (v := .int .i64 ((q : Int) + 1)) rfl (by kernel_rfl) (by kernel_rfl) (by kernel_rfl) (fun _ _ _ h => h) (.inl ⟨rfl, fun _ _ => by simp [execOp, go_sem]⟩) hS1 ?_
    simp only [List.getElem_toArray, List.getElem_cons_succ, List.getElem_cons_zero, Act.put, List.setIfInBounds_toArray, List.set_cons_zero, List.set_cons_succ]
    refine wpAnyH_take (i := 5) (v := .int .i64 (q : Int)) rfl (by kernel_rfl) (by kernel_rfl) (by kernel_rfl) (fun _ _ _ h => h) (.inl ⟨rfl, fun _ _ => by simp [execOp, go_sem, hwq]⟩) hS1 ?_
    simp only [List.getElem_toArray, List.getElem_cons_succ, List.getElem_cons_zero, Act.put, List.setIfInBounds_toArray, List.set_cons_zero, List.set_cons_succ]
    refine wpAnyH_take (i := 6) (v := .agg #[.int .i64 (x5.a : Int), .int .i64 (x5.b : Int), .bool x5.h, .int .i64 x5.v]) rfl (by kernel_rfl) (by kernel_rfl) (by kernel_rfl) (fun _ _ _ h => h) (yieldsIf_load_mid rfl 70 (.tmp 9) rfl XB 0 rfl [.int .i64 (x5.a : Int), .int .i64 (x5.b : Int), .bool x5.h, .int .i64 x5.v] _ (fun w' hw' => by have := World.rangeAt_of_block hw'.2 0 4; simpa using this) Try.underlying70 rfl (by kernel_rfl)) hS1 ?_
    simp only [List.getElem_toArray, List.getElem_cons_succ, List.getElem_cons_zero, Act.put, List.setIfInBounds_toArray, List.set_cons_zero, List.set_cons_succ]
    refine wpAnyH_take (i := 7) (v := .pointer (some ⟨g, q * 4, none⟩)) rfl (by kernel_rfl) (by kernel_rfl) (by kernel_rfl) (fun _ _ _ h => h) (yieldsIf_index rfl 56 (.tmp 46) (.tmp 48) rfl _ (fun w => by simp [Instr.indexAt, go_sem, hix, hix2])) hS1 ?_
    simp only [List.getElem_toArray, List.getElem_cons_succ, List.getElem_cons_zero, Act.put, List.setIfInBounds_toArray, List.set_cons_zero, List.set_cons_succ]
    refine wpAnyH_all (rs := [8]) (by kernel_rfl) (by simp) ?_
    intro i hi
    simp only [List.mem_cons, List.not_mem_nil, or_false] at hi
    subst hi
    refine wpOp_of_wp rfl rfl (fun K' hK' => ?_)
    refine wp_storeN (.tmp 50) (.tmp 49) rfl 0 g n cap A5 HT5.out.2.1 q hqn x5 rfl rfl (fun w6 hr6 hg6 => hK' _ _ ⟨?_, ?_⟩)
    · obtain ⟨k1, k2⟩ := Tri.over rfl HT5.out.drew hr6 hg6
      exact ⟨(blk6 k1.1).2.2.1, (HX5.out.moved k2.undrew).1⟩
    · refine wpAnyH_done (by kernel_rfl) ?_ _
      rw [HS.out] at hr6
      obtain ⟨k1, k2⟩ := Tri.over rfl HT5.out.drew hr6 hg6
      have HT6 : Hid (Tri w6 t (.slice (some ⟨g, 0, none⟩) n cap) W M (A5.set q x5) r0 f5 c5) := k1
      have HM6 : Hid (Moved w w6 t _ (.slice (some ⟨g, 0, none⟩) n cap)) := HM5.out.trans k2.undrew
      clear k1 k2 hr6 hg6 hK' HT5 HM5 HX5 hS1
      simp only [List.getElem_toArray, List.getElem_cons_succ, List.getElem_cons_zero, Act.put, List.setIfInBounds_toArray, List.set_cons_zero, List.set_cons_succ]
      go_wp2_with (fail)
      go_ret
      refine ⟨rfl, _, ?_, HM6.out⟩
      have k6 := HT6.out
      rw [HD5.out] at k6
      exact k6
end Go.Proofs.Ytfbkjghipahipaa
