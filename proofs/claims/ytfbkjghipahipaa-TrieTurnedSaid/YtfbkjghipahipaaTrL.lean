/-
  shrink, the step. Written by tools/mkTrH.py.
-/
import Derived.Test.YtfbkjghipahipaaTrK
namespace Go.Proofs.Ytfbkjghipahipaa
open Go.RowKit
set_option linter.unusedVariables false
set_option linter.unusedSimpArgs false

/-- What shrink does, where d bits are left. -/
def ShrP (W k n d : Nat) : Prop := ∀ (t : Nat) (v : Value) (M : Nat) (A : List Nd) (r0 f c r len : Nat) (w : World), Tri w t v W M A r0 f c → Bd ⟨A, f, c⟩ → r ≤ A.length → way A d (W - len) r k → A.length ≤ 4294967200 → d + 1 ≤ c → c ≤ 4294967200 → len + d = n →
    Calls Try.prog 35 #[.pointer (some ⟨t, 0, none⟩), .int .i64 (r : Int), .int .u32 (k : Int), .int .i64 (n : Int), .int .i64 (len : Int)] w fun e w' => e = .returned (.int .i64 ((shr d (W - len) ⟨A, f, c⟩ r k).2 : Int)) ∧ ∃ v', Tri w' t v' W M (shr d (W - len) ⟨A, f, c⟩ r k).1.A r0 (shr d (W - len) ⟨A, f, c⟩ r k).1.f (shr d (W - len) ⟨A, f, c⟩ r k).1.c ∧ Moved w w' t v v'
theorem fin_c (s : Ar) (r : Nat) (x : Nd) : s.c ≤ (fin s r x).1.c + 1 := by unfold fin; split <;> simp <;> omega
theorem shr_c : ∀ (d h : Nat) (s : Ar) (r k : Nat), s.c ≤ (shr d h s r k).1.c + d + 1
  | 0, h, s, r, k => by rw [shr0]; have := fin_c s r { gt s.A r with h := false, v := 0 }; omega
  | d + 1, h, s, r, k => by
    rw [shr1]
    have h1 := shr_c d (h - 1) s (kidA (gt s.A r) (sid k h)) k
    have h2 := fin_c (shr d (h - 1) s (kidA (gt s.A r) (sid k h)) k).1 r (setK (gt s.A r) (sid k h) (shr d (h - 1) s (kidA (gt s.A r) (sid k h)) k).2)
    omega
set_option maxHeartbeats 8000000 in
set_option maxRecDepth 20000 in
theorem shrinkS (W k n d : Nat) (hW : W ≤ 32) (hn : n ≤ W) (hk : k < 4294967296) (ih : ShrP W k n d) : ShrP W k n (d + 1) := by
  intro t v M A r0 f c r len w h bd hr hway hA hc0 hc hlen
  rw [shr1]
  simp only [way] at hway
  obtain ⟨h1, hway⟩ := hway
  have hkid := kid_le bd r (sid k (W - len))
  have hbs := bd_shr d (W - len - 1) ⟨A, f, c⟩ (kidA (gt A r) (sid k (W - len))) k bd hkid hway
  have hsc := shr_c d (W - len - 1) ⟨A, f, c⟩ (kidA (gt A r) (sid k (W - len))) k
  dsimp only at hkid hbs hsc ⊢
  have hlt := h.lt
  obtain ⟨q, rfl⟩ : ∃ q, r = q + 1 := ⟨r - 1, by omega⟩
  have hnd := nodeC t v W M A r0 f c (q + 1) w h (by omega) (by omega) hr
  have hqq : ((q + 1 : Nat) : Int) = (q : Int) + 1 := by omega
  rw [hqq] at hnd ⊢
  obtain ⟨d0, hd0⟩ : ∃ d0, d0 = gt A (q + 1) := ⟨_, rfl⟩
  rw [← hd0] at hnd
  have HD : Hid (d0 = gt A (q + 1)) := hd0
  have HT : Hid (Tri w t v W M A r0 f c) := h
  clear hd0 h
  go_enter Try.func35, Try.ntmps35
  go_wp2_with (fail)
  refine hnd.mono ?_
  rintro e w2 ⟨rfl, hb⟩
  have HT2 : Hid (Tri w2 t v W M A r0 f c) := HT.out.on hb
  have HM2 : Hid (Moved w w2 t v v) := Moved.of_below hb
  have HE : Hid (w.heap.size ≤ w2.heap.size) := hb.size
  clear hb hnd HT
  have hx2 : (w2.alloc (.cells #[.int .i64 (d0.a : Int), .int .i64 (d0.b : Int), .bool d0.h, .int .i64 d0.v] 70)).heap[w2.heap.size]? = some (.cells #[.int .i64 (d0.a : Int), .int .i64 (d0.b : Int), .bool d0.h, .int .i64 d0.v] 70) := blk_new w2 _
  have bA : Below w2.heap.size w2 (w2.alloc (.cells #[.int .i64 (d0.a : Int), .int .i64 (d0.b : Int), .bool d0.h, .int .i64 d0.v] 70)) := (Below.refl _ _).alloc (Nat.le_refl _) _
  have HT3 : Hid (Tri (w2.alloc (.cells #[.int .i64 (d0.a : Int), .int .i64 (d0.b : Int), .bool d0.h, .int .i64 d0.v] 70)) t v W M A r0 f c) := HT2.out.on bA
  have HM3 : Hid (Moved w (w2.alloc (.cells #[.int .i64 (d0.a : Int), .int .i64 (d0.b : Int), .bool d0.h, .int .i64 d0.v] 70)) t v v) := HM2.out.trans (Moved.of_below bA)
  have HX3 : Hid (Kb (w2.alloc (.cells #[.int .i64 (d0.a : Int), .int .i64 (d0.b : Int), .bool d0.h, .int .i64 d0.v] 70)) t v w2.heap.size (.cells #[.int .i64 (d0.a : Int), .int .i64 (d0.b : Int), .bool d0.h, .int .i64 d0.v] 70)) := ⟨hx2, by have := HT2.out.lt; omega, fun e => by have := HT2.out.own e; omega⟩
  have hlt2 := HT2.out.lt
  have hne2 : ¬ t = w2.heap.size := by omega
  obtain ⟨x0, x1, x2, x3⟩ := blk4 hx2
  clear bA
  have hs : sid k (W - len) = 0 ∨ sid k (W - len) = 1 := sid_lt
  have hsd := sideC t W len k (w2.alloc (.cells #[.int .i64 (d0.a : Int), .int .i64 (d0.b : Int), .bool d0.h, .int .i64 d0.v] 70)) HT3.out.wid (by omega) hW hk
  obtain ⟨s, hse⟩ : ∃ s, s = sid k (W - len) := ⟨_, rfl⟩
  have HSd : Hid (s = sid k (W - len)) := hse
  rw [← hse] at hs hsd
  rw [← HD.out, ← hse] at hkid hbs hsc hway
  clear hse
  have hlx : ¬ (len : Int) = (n : Int) := by omega
  have hwl : IntKind.i64.wrap ((len : Int) + 1) = (len : Int) + 1 := by rw [IntKind.wrap_i64]; omega
  have hlw : W - (len + 1) = W - len - 1 := by omega
  have hih := ih t v M A r0 f c (kidA d0 s) (len + 1) _ HT3.out bd hkid (by rw [hlw]; exact hway) hA (by omega) hc (by omega)
  rw [hlw, show ((len + 1 : Nat) : Int) = (len : Int) + 1 by omega] at hih
  have hik := fun V => idx_kid w2.heap.size s hs V
  have hkc := kid_cell hs HX3.out.1
  go_wp2_with (fail)
  refine hsd.mono ?_
  rintro e w9 ⟨rfl, hw⟩
  obtain rfl := hw.symm
  clear hw hsd
  clear hx2 x0 x1 x2 x3 HT2 HM2
  generalize w2.alloc (.cells #[.int .i64 (d0.a : Int), .int .i64 (d0.b : Int), .bool d0.h, .int .i64 d0.v] 70) = W3 at *
  generalize w2.heap.size = XB at *
  clear w2
  go_wp2_with (fail)
  refine hih.mono ?_
  rintro e w4 ⟨rfl, v4, k1, k2⟩
  have HX4 : Hid (Kb w4 t v4 XB (.cells #[.int .i64 (d0.a : Int), .int .i64 (d0.b : Int), .bool d0.h, .int .i64 d0.v] 70)) := HX3.out.moved k2
  have HM4 : Hid (Moved w w4 t v v4) := HM3.out.trans k2
  have HT4 : Hid (Tri w4 t v4 W M (shr d (W - len - 1) ⟨A, f, c⟩ (kidA d0 s) k).1.A r0 (shr d (W - len - 1) ⟨A, f, c⟩ (kidA d0 s) k).1.f (shr d (W - len - 1) ⟨A, f, c⟩ (kidA d0 s) k).1.c) := k1
  clear k1 k2 hih HT3 HM3 HX3 hkc
  generalize hgg : shr d (W - len - 1) ⟨A, f, c⟩ (kidA d0 s) k = gg at *
  obtain ⟨⟨A5, f5, c5⟩, m⟩ := gg
  dsimp only at *
  have EF : Hid (fin (shr d (W - len - 1) ⟨A, f, c⟩ (kidA (gt A (q + 1)) (sid k (W - len))) k).1 (q + 1) (setK (gt A (q + 1)) (sid k (W - len)) (shr d (W - len - 1) ⟨A, f, c⟩ (kidA (gt A (q + 1)) (sid k (W - len))) k).2) = fin ⟨A5, f5, c5⟩ (q + 1) (setK d0 s m)) := by
    show _ = _
    rw [← HD.out, ← HSd.out, hgg]
  clear hgg
  have cx := kid_cell hs HX4.out.1
  have fx := blk_free HX4.out.1 s
  have HX5 : Hid (Kb (w4.setCell ⟨XB, s, none⟩ (.int .i64 (m : Int))) t v4 XB (.cells #[.int .i64 (((setK d0 s m)).a : Int), .int .i64 (((setK d0 s m)).b : Int), .bool ((setK d0 s m)).h, .int .i64 ((setK d0 s m)).v] 70)) := kid_set hs HX4.out
  have HT5 : Hid (Tri (w4.setCell ⟨XB, s, none⟩ (.int .i64 (m : Int))) t v4 W M A5 r0 f5 c5) := HT4.out.far HX4.out.2.1 HX4.out.2.2 _
  have HM5 : Hid (Moved w (w4.setCell ⟨XB, s, none⟩ (.int .i64 (m : Int))) t v v4) := HM4.out.set HE.out _
  obtain ⟨x5, hx5⟩ : ∃ x5 : Nd, x5 = setK d0 s m := ⟨_, rfl⟩
  rw [← hx5] at HX5 EF
  clear hx5
  obtain ⟨y0, y1, y2, y3⟩ := blk4 HX5.out.1
  have hek := fun V => eqK x5.a x5.b V
  have hA5 := hbs.2.2.1
  have hc5 := hbs.2.2.2
  clear hlx hwl hlw hbs hkid hway
  by_cases hz : isZ x5 = true
  · have hB : (x5.a == 0 && x5.b == 0) = true := by have := (isZ_iff _).1 hz; simp [this]
    have hh : x5.h = false := ((isZ_iff _).1 hz).2.2.1
    have hv : x5.v = 0 := ((isZ_iff _).1 hz).2.2.2
    rw [hB] at hek
    have HF : Hid (fin ⟨A5, f5, c5⟩ (q + 1) x5 = (⟨A5.set q ⟨f5, 0, false, 0⟩, q + 1, c5 - 1⟩, 0)) := by show _ = _; unfold fin; rw [if_pos hz, Nat.add_sub_cancel]
    have hgw := giveC t v4 W M A5 r0 q f5 c5 _ HT5.out (by omega) (by omega) (by omega) (by omega)
    go_wp2_with (fail)
    refine hgw.mono ?_
    rintro e w7 ⟨rfl, v7, k1, k2⟩
    have HT7 : Hid (Tri w7 t v7 W M (A5.set q ⟨f5, 0, false, 0⟩) r0 (q + 1) (c5 - 1)) := k1
    have HM7 : Hid (Moved w w7 t v v7) := HM5.out.trans k2
    clear k1 k2 hgw
    go_wp2_with (fail)
    go_ret
    rw [EF.out, HF.out]
    exact ⟨rfl, _, HT7.out, HM7.out⟩
  · by_cases hB : (x5.a == 0 && x5.b == 0) = true
    · rw [hB] at hek
      by_cases hh : x5.h = true
      · skip
        have HF : Hid (fin ⟨A5, f5, c5⟩ (q + 1) x5 = (⟨A5.set q x5, f5, c5⟩, q + 1)) := by show _ = _; unfold fin; rw [if_neg hz, Nat.add_sub_cancel]
        go_upto_region 9 with (fail)
        generalize w4.setCell ⟨XB, s, none⟩ (.int .i64 (m : Int)) = W5 at *
        clear y0 y1 y2 y3 cx fx hek hz HX4 HT4 HM4
        obtain ⟨g, cap, hv5, hcap, hg⟩ := HT5.out.filled (by omega)
        obtain ⟨n, hn⟩ : ∃ n, n = A5.length := ⟨_, rfl⟩
        have HS : Hid (A5.take q ++ [x5] ++ A5.drop (q + [x5].length) = A5.set q x5) := take_set A5 q x5 (by omega)
        have hqn : q < n := by omega
        have hn0 : (n : Int) ≤ 4294967295 := by omega
        rw [← hn] at hcap hv5
        clear hn
        subst hv5
        have hix : (q : Int) < (n : Int) := by omega
        have hix2 : ¬ n ≤ q := by omega
        have hwq : IntKind.i64.wrap (q : Int) = (q : Int) := by rw [IntKind.wrap_i64]; omega
        refine wp_region_held_drew (S := fun w' => w'.cell? ⟨t, 2, none⟩ = some (.slice (some ⟨g, 0, none⟩) n cap) ∧ w'.heap[XB]? = some (.cells #[.int .i64 (x5.a : Int), .int .i64 (x5.b : Int), .bool x5.h, .int .i64 x5.v] 70)) (by kernel_rfl) ⟨(blk6 HT5.out.1).2.2.1, HX5.out.1⟩ (fun hS1 => ?_)
        show wpAnyH _ _ _ _ _ 9 _ _ _
        refine wpAnyH_take (i := 0) (v := .pointer (some ⟨t, 0, none⟩)) rfl (by kernel_rfl) (by kernel_rfl) (by kernel_rfl) (fun _ _ _ h => h) (.inl ⟨rfl, fun _ _ => by simp [execOp, go_sem]⟩) hS1 ?_
        simp only [List.getElem_toArray, List.getElem_cons_succ, List.getElem_cons_zero, Act.put, List.setIfInBounds_toArray, List.set_cons_zero, List.set_cons_succ]
        refine wpAnyH_take (i := 1) (v := .pointer (some ⟨t, 0, none⟩)) rfl (by kernel_rfl) (by kernel_rfl) (by kernel_rfl) (fun _ _ _ h => h) (.inl ⟨rfl, fun _ _ => by simp [execOp, go_sem]⟩) hS1 ?_
        simp only [List.getElem_toArray, List.getElem_cons_succ, List.getElem_cons_zero, Act.put, List.setIfInBounds_toArray, List.set_cons_zero, List.set_cons_succ]
        refine wpAnyH_take (i := 2) (v := .pointer (some ⟨t, 2, none⟩)) rfl (by kernel_rfl) (by kernel_rfl) (by kernel_rfl) (fun _ _ _ h => h) (.inl ⟨rfl, fun _ _ => by simp [execOp, go_sem]⟩) hS1 ?_
        simp only [List.getElem_toArray, List.getElem_cons_succ, List.getElem_cons_zero, Act.put, List.setIfInBounds_toArray, List.set_cons_zero, List.set_cons_succ]
        refine wpAnyH_take (i := 3) (v := .slice (some ⟨g, 0, none⟩) n cap) rfl (by kernel_rfl) (by kernel_rfl) (by kernel_rfl) (fun _ _ _ h => h) (.inl ⟨rfl, fun w' hw' => by have hcc := hw'.1; simp [execOp, go_sem, hcc]⟩) hS1 ?_
        simp only [List.getElem_toArray, List.getElem_cons_succ, List.getElem_cons_zero, Act.put, List.setIfInBounds_toArray, List.set_cons_zero, List.set_cons_succ]
        refine wpAnyH_take (i := 4) (v := .int .i64 ((q : Int) + 1)) rfl (by kernel_rfl) (by kernel_rfl) (by kernel_rfl) (fun _ _ _ h => h) (.inl ⟨rfl, fun _ _ => by simp [execOp, go_sem]⟩) hS1 ?_
        simp only [List.getElem_toArray, List.getElem_cons_succ, List.getElem_cons_zero, Act.put, List.setIfInBounds_toArray, List.set_cons_zero, List.set_cons_succ]
        refine wpAnyH_take (i := 5) (v := .int .i64 (q : Int)) rfl (by kernel_rfl) (by kernel_rfl) (by kernel_rfl) (fun _ _ _ h => h) (.inl ⟨rfl, fun _ _ => by simp [execOp, go_sem, hwq]⟩) hS1 ?_
        simp only [List.getElem_toArray, List.getElem_cons_succ, List.getElem_cons_zero, Act.put, List.setIfInBounds_toArray, List.set_cons_zero, List.set_cons_succ]
        refine wpAnyH_take (i := 6) (v := .agg #[.int .i64 (x5.a : Int), .int .i64 (x5.b : Int), .bool x5.h, .int .i64 x5.v]) rfl (by kernel_rfl) (by kernel_rfl) (by kernel_rfl) (fun _ _ _ h => h) (yieldsIf_load_mid rfl 70 (.tmp 11) rfl XB 0 rfl [.int .i64 (x5.a : Int), .int .i64 (x5.b : Int), .bool x5.h, .int .i64 x5.v] _ (fun w' hw' => by have := World.rangeAt_of_block hw'.2 0 4; simpa using this) Try.underlying70 rfl (by kernel_rfl)) hS1 ?_
        simp only [List.getElem_toArray, List.getElem_cons_succ, List.getElem_cons_zero, Act.put, List.setIfInBounds_toArray, List.set_cons_zero, List.set_cons_succ]
        refine wpAnyH_take (i := 7) (v := .pointer (some ⟨g, q * 4, none⟩)) rfl (by kernel_rfl) (by kernel_rfl) (by kernel_rfl) (fun _ _ _ h => h) (yieldsIf_index rfl 56 (.tmp 47) (.tmp 49) rfl _ (fun w => by simp [Instr.indexAt, go_sem, hix, hix2])) hS1 ?_
        simp only [List.getElem_toArray, List.getElem_cons_succ, List.getElem_cons_zero, Act.put, List.setIfInBounds_toArray, List.set_cons_zero, List.set_cons_succ]
        refine wpAnyH_all (rs := [8]) (by kernel_rfl) (by simp) ?_
        intro i hi
        simp only [List.mem_cons, List.not_mem_nil, or_false] at hi
        subst hi
        refine wpOp_of_wp rfl rfl (fun K' hK' => ?_)
        refine wp_storeN (.tmp 51) (.tmp 50) rfl 0 g n cap A5 HT5.out.2.1 q hqn x5 rfl rfl (fun w6 hr6 hg6 => hK' _ _ ⟨?_, ?_⟩)
        · obtain ⟨k1, k2⟩ := Tri.over rfl HT5.out.drew hr6 hg6
          exact ⟨(blk6 k1.1).2.2.1, (HX5.out.moved k2.undrew).1⟩
        · refine wpAnyH_done (by kernel_rfl) ?_ _
          rw [HS.out] at hr6
          obtain ⟨k1, k2⟩ := Tri.over rfl HT5.out.drew hr6 hg6
          have HT6 : Hid (Tri w6 t (.slice (some ⟨g, 0, none⟩) n cap) W M (A5.set q x5) r0 f5 c5) := k1
          have HM6 : Hid (Moved w w6 t _ (.slice (some ⟨g, 0, none⟩) n cap)) := HM5.out.trans k2.undrew
          clear k1 k2 hr6 hg6 hK' HT5 HM5 HX5 hS1
          simp only [List.getElem_toArray, List.getElem_cons_succ, List.getElem_cons_zero, Act.put, List.setIfInBounds_toArray, List.set_cons_zero, List.set_cons_succ]
          go_wp2_with (fail)
          go_ret
          rw [EF.out, HF.out]
          exact ⟨rfl, _, HT6.out, HM6.out⟩
      · have hh' : x5.h = false := by simpa using hh
        have hv : ¬ x5.v = 0 := fun e => hz ((isZ_iff _).2 ⟨by simp at hB; exact hB.1, by simp at hB; exact hB.2, hh', e⟩)
        have HF : Hid (fin ⟨A5, f5, c5⟩ (q + 1) x5 = (⟨A5.set q x5, f5, c5⟩, q + 1)) := by show _ = _; unfold fin; rw [if_neg hz, Nat.add_sub_cancel]
        go_upto_region 9 with (fail)
        generalize w4.setCell ⟨XB, s, none⟩ (.int .i64 (m : Int)) = W5 at *
        clear y0 y1 y2 y3 cx fx hek hz HX4 HT4 HM4
        obtain ⟨g, cap, hv5, hcap, hg⟩ := HT5.out.filled (by omega)
        obtain ⟨n, hn⟩ : ∃ n, n = A5.length := ⟨_, rfl⟩
        have HS : Hid (A5.take q ++ [x5] ++ A5.drop (q + [x5].length) = A5.set q x5) := take_set A5 q x5 (by omega)
        have hqn : q < n := by omega
        have hn0 : (n : Int) ≤ 4294967295 := by omega
        rw [← hn] at hcap hv5
        clear hn
        subst hv5
        have hix : (q : Int) < (n : Int) := by omega
        have hix2 : ¬ n ≤ q := by omega
        have hwq : IntKind.i64.wrap (q : Int) = (q : Int) := by rw [IntKind.wrap_i64]; omega
        refine wp_region_held_drew (S := fun w' => w'.cell? ⟨t, 2, none⟩ = some (.slice (some ⟨g, 0, none⟩) n cap) ∧ w'.heap[XB]? = some (.cells #[.int .i64 (x5.a : Int), .int .i64 (x5.b : Int), .bool x5.h, .int .i64 x5.v] 70)) (by kernel_rfl) ⟨(blk6 HT5.out.1).2.2.1, HX5.out.1⟩ (fun hS1 => ?_)
        show wpAnyH _ _ _ _ _ 9 _ _ _
        refine wpAnyH_take (i := 0) (v := .pointer (some ⟨t, 0, none⟩)) rfl (by kernel_rfl) (by kernel_rfl) (by kernel_rfl) (fun _ _ _ h => h) (.inl ⟨rfl, fun _ _ => by simp [execOp, go_sem]⟩) hS1 ?_
        simp only [List.getElem_toArray, List.getElem_cons_succ, List.getElem_cons_zero, Act.put, List.setIfInBounds_toArray, List.set_cons_zero, List.set_cons_succ]
        refine wpAnyH_take (i := 1) (v := .pointer (some ⟨t, 0, none⟩)) rfl (by kernel_rfl) (by kernel_rfl) (by kernel_rfl) (fun _ _ _ h => h) (.inl ⟨rfl, fun _ _ => by simp [execOp, go_sem]⟩) hS1 ?_
        simp only [List.getElem_toArray, List.getElem_cons_succ, List.getElem_cons_zero, Act.put, List.setIfInBounds_toArray, List.set_cons_zero, List.set_cons_succ]
        refine wpAnyH_take (i := 2) (v := .pointer (some ⟨t, 2, none⟩)) rfl (by kernel_rfl) (by kernel_rfl) (by kernel_rfl) (fun _ _ _ h => h) (.inl ⟨rfl, fun _ _ => by simp [execOp, go_sem]⟩) hS1 ?_
        simp only [List.getElem_toArray, List.getElem_cons_succ, List.getElem_cons_zero, Act.put, List.setIfInBounds_toArray, List.set_cons_zero, List.set_cons_succ]
        refine wpAnyH_take (i := 3) (v := .slice (some ⟨g, 0, none⟩) n cap) rfl (by kernel_rfl) (by kernel_rfl) (by kernel_rfl) (fun _ _ _ h => h) (.inl ⟨rfl, fun w' hw' => by have hcc := hw'.1; simp [execOp, go_sem, hcc]⟩) hS1 ?_
        simp only [List.getElem_toArray, List.getElem_cons_succ, List.getElem_cons_zero, Act.put, List.setIfInBounds_toArray, List.set_cons_zero, List.set_cons_succ]
        refine wpAnyH_take (i := 4) (v := .int .i64 ((q : Int) + 1)) rfl (by kernel_rfl) (by kernel_rfl) (by kernel_rfl) (fun _ _ _ h => h) (.inl ⟨rfl, fun _ _ => by simp [execOp, go_sem]⟩) hS1 ?_
        simp only [List.getElem_toArray, List.getElem_cons_succ, List.getElem_cons_zero, Act.put, List.setIfInBounds_toArray, List.set_cons_zero, List.set_cons_succ]
        refine wpAnyH_take (i := 5) (v := .int .i64 (q : Int)) rfl (by kernel_rfl) (by kernel_rfl) (by kernel_rfl) (fun _ _ _ h => h) (.inl ⟨rfl, fun _ _ => by simp [execOp, go_sem, hwq]⟩) hS1 ?_
        simp only [List.getElem_toArray, List.getElem_cons_succ, List.getElem_cons_zero, Act.put, List.setIfInBounds_toArray, List.set_cons_zero, List.set_cons_succ]
        refine wpAnyH_take (i := 6) (v := .agg #[.int .i64 (x5.a : Int), .int .i64 (x5.b : Int), .bool x5.h, .int .i64 x5.v]) rfl (by kernel_rfl) (by kernel_rfl) (by kernel_rfl) (fun _ _ _ h => h) (yieldsIf_load_mid rfl 70 (.tmp 11) rfl XB 0 rfl [.int .i64 (x5.a : Int), .int .i64 (x5.b : Int), .bool x5.h, .int .i64 x5.v] _ (fun w' hw' => by have := World.rangeAt_of_block hw'.2 0 4; simpa using this) Try.underlying70 rfl (by kernel_rfl)) hS1 ?_
        simp only [List.getElem_toArray, List.getElem_cons_succ, List.getElem_cons_zero, Act.put, List.setIfInBounds_toArray, List.set_cons_zero, List.set_cons_succ]
        refine wpAnyH_take (i := 7) (v := .pointer (some ⟨g, q * 4, none⟩)) rfl (by kernel_rfl) (by kernel_rfl) (by kernel_rfl) (fun _ _ _ h => h) (yieldsIf_index rfl 56 (.tmp 47) (.tmp 49) rfl _ (fun w => by simp [Instr.indexAt, go_sem, hix, hix2])) hS1 ?_
        simp only [List.getElem_toArray, List.getElem_cons_succ, List.getElem_cons_zero, Act.put, List.setIfInBounds_toArray, List.set_cons_zero, List.set_cons_succ]
        refine wpAnyH_all (rs := [8]) (by kernel_rfl) (by simp) ?_
        intro i hi
        simp only [List.mem_cons, List.not_mem_nil, or_false] at hi
        subst hi
        refine wpOp_of_wp rfl rfl (fun K' hK' => ?_)
        refine wp_storeN (.tmp 51) (.tmp 50) rfl 0 g n cap A5 HT5.out.2.1 q hqn x5 rfl rfl (fun w6 hr6 hg6 => hK' _ _ ⟨?_, ?_⟩)
        · obtain ⟨k1, k2⟩ := Tri.over rfl HT5.out.drew hr6 hg6
          exact ⟨(blk6 k1.1).2.2.1, (HX5.out.moved k2.undrew).1⟩
        · refine wpAnyH_done (by kernel_rfl) ?_ _
          rw [HS.out] at hr6
          obtain ⟨k1, k2⟩ := Tri.over rfl HT5.out.drew hr6 hg6
          have HT6 : Hid (Tri w6 t (.slice (some ⟨g, 0, none⟩) n cap) W M (A5.set q x5) r0 f5 c5) := k1
          have HM6 : Hid (Moved w w6 t _ (.slice (some ⟨g, 0, none⟩) n cap)) := HM5.out.trans k2.undrew
          clear k1 k2 hr6 hg6 hK' HT5 HM5 HX5 hS1
          simp only [List.getElem_toArray, List.getElem_cons_succ, List.getElem_cons_zero, Act.put, List.setIfInBounds_toArray, List.set_cons_zero, List.set_cons_succ]
          go_wp2_with (fail)
          go_ret
          rw [EF.out, HF.out]
          exact ⟨rfl, _, HT6.out, HM6.out⟩
    · have hB' : (x5.a == 0 && x5.b == 0) = false := by simpa using hB
      rw [hB'] at hek
      have HF : Hid (fin ⟨A5, f5, c5⟩ (q + 1) x5 = (⟨A5.set q x5, f5, c5⟩, q + 1)) := by show _ = _; unfold fin; rw [if_neg hz, Nat.add_sub_cancel]
      go_upto_region 9 with (fail)
      generalize w4.setCell ⟨XB, s, none⟩ (.int .i64 (m : Int)) = W5 at *
      clear y0 y1 y2 y3 cx fx hek hz HX4 HT4 HM4
      obtain ⟨g, cap, hv5, hcap, hg⟩ := HT5.out.filled (by omega)
      obtain ⟨n, hn⟩ : ∃ n, n = A5.length := ⟨_, rfl⟩
      have HS : Hid (A5.take q ++ [x5] ++ A5.drop (q + [x5].length) = A5.set q x5) := take_set A5 q x5 (by omega)
      have hqn : q < n := by omega
      have hn0 : (n : Int) ≤ 4294967295 := by omega
      rw [← hn] at hcap hv5
      clear hn
      subst hv5
      have hix : (q : Int) < (n : Int) := by omega
      have hix2 : ¬ n ≤ q := by omega
      have hwq : IntKind.i64.wrap (q : Int) = (q : Int) := by rw [IntKind.wrap_i64]; omega
      refine wp_region_held_drew (S := fun w' => w'.cell? ⟨t, 2, none⟩ = some (.slice (some ⟨g, 0, none⟩) n cap) ∧ w'.heap[XB]? = some (.cells #[.int .i64 (x5.a : Int), .int .i64 (x5.b : Int), .bool x5.h, .int .i64 x5.v] 70)) (by kernel_rfl) ⟨(blk6 HT5.out.1).2.2.1, HX5.out.1⟩ (fun hS1 => ?_)
      show wpAnyH _ _ _ _ _ 9 _ _ _
      refine wpAnyH_take (i := 0) (v := .pointer (some ⟨t, 0, none⟩)) rfl (by kernel_rfl) (by kernel_rfl) (by kernel_rfl) (fun _ _ _ h => h) (.inl ⟨rfl, fun _ _ => by simp [execOp, go_sem]⟩) hS1 ?_
      simp only [List.getElem_toArray, List.getElem_cons_succ, List.getElem_cons_zero, Act.put, List.setIfInBounds_toArray, List.set_cons_zero, List.set_cons_succ]
      refine wpAnyH_take (i := 1) (v := .pointer (some ⟨t, 0, none⟩)) rfl (by kernel_rfl) (by kernel_rfl) (by kernel_rfl) (fun _ _ _ h => h) (.inl ⟨rfl, fun _ _ => by simp [execOp, go_sem]⟩) hS1 ?_
      simp only [List.getElem_toArray, List.getElem_cons_succ, List.getElem_cons_zero, Act.put, List.setIfInBounds_toArray, List.set_cons_zero, List.set_cons_succ]
      refine wpAnyH_take (i := 2) (v := .pointer (some ⟨t, 2, none⟩)) rfl (by kernel_rfl) (by kernel_rfl) (by kernel_rfl) (fun _ _ _ h => h) (.inl ⟨rfl, fun _ _ => by simp [execOp, go_sem]⟩) hS1 ?_
      simp only [List.getElem_toArray, List.getElem_cons_succ, List.getElem_cons_zero, Act.put, List.setIfInBounds_toArray, List.set_cons_zero, List.set_cons_succ]
      refine wpAnyH_take (i := 3) (v := .slice (some ⟨g, 0, none⟩) n cap) rfl (by kernel_rfl) (by kernel_rfl) (by kernel_rfl) (fun _ _ _ h => h) (.inl ⟨rfl, fun w' hw' => by have hcc := hw'.1; simp [execOp, go_sem, hcc]⟩) hS1 ?_
      simp only [List.getElem_toArray, List.getElem_cons_succ, List.getElem_cons_zero, Act.put, List.setIfInBounds_toArray, List.set_cons_zero, List.set_cons_succ]
      refine wpAnyH_take (i := 4) (v := .int .i64 ((q : Int) + 1)) rfl (by kernel_rfl) (by kernel_rfl) (by kernel_rfl) (fun _ _ _ h => h) (.inl ⟨rfl, fun _ _ => by simp [execOp, go_sem]⟩) hS1 ?_
      simp only [List.getElem_toArray, List.getElem_cons_succ, List.getElem_cons_zero, Act.put, List.setIfInBounds_toArray, List.set_cons_zero, List.set_cons_succ]
      refine wpAnyH_take (i := 5) (v := .int .i64 (q : Int)) rfl (by kernel_rfl) (by kernel_rfl) (by kernel_rfl) (fun _ _ _ h => h) (.inl ⟨rfl, fun _ _ => by simp [execOp, go_sem, hwq]⟩) hS1 ?_
      simp only [List.getElem_toArray, List.getElem_cons_succ, List.getElem_cons_zero, Act.put, List.setIfInBounds_toArray, List.set_cons_zero, List.set_cons_succ]
      refine wpAnyH_take (i := 6) (v := .agg #[.int .i64 (x5.a : Int), .int .i64 (x5.b : Int), .bool x5.h, .int .i64 x5.v]) rfl (by kernel_rfl) (by kernel_rfl) (by kernel_rfl) (fun _ _ _ h => h) (yieldsIf_load_mid rfl 70 (.tmp 11) rfl XB 0 rfl [.int .i64 (x5.a : Int), .int .i64 (x5.b : Int), .bool x5.h, .int .i64 x5.v] _ (fun w' hw' => by have := World.rangeAt_of_block hw'.2 0 4; simpa using this) Try.underlying70 rfl (by kernel_rfl)) hS1 ?_
      simp only [List.getElem_toArray, List.getElem_cons_succ, List.getElem_cons_zero, Act.put, List.setIfInBounds_toArray, List.set_cons_zero, List.set_cons_succ]
      refine wpAnyH_take (i := 7) (v := .pointer (some ⟨g, q * 4, none⟩)) rfl (by kernel_rfl) (by kernel_rfl) (by kernel_rfl) (fun _ _ _ h => h) (yieldsIf_index rfl 56 (.tmp 47) (.tmp 49) rfl _ (fun w => by simp [Instr.indexAt, go_sem, hix, hix2])) hS1 ?_
      simp only [List.getElem_toArray, List.getElem_cons_succ, List.getElem_cons_zero, Act.put, List.setIfInBounds_toArray, List.set_cons_zero, List.set_cons_succ]
      refine wpAnyH_all (rs := [8]) (by kernel_rfl) (by simp) ?_
      intro i hi
      simp only [List.mem_cons, List.not_mem_nil, or_false] at hi
      subst hi
      refine wpOp_of_wp rfl rfl (fun K' hK' => ?_)
      refine wp_storeN (.tmp 51) (.tmp 50) rfl 0 g n cap A5 HT5.out.2.1 q hqn x5 rfl rfl (fun w6 hr6 hg6 => hK' _ _ ⟨?_, ?_⟩)
      · obtain ⟨k1, k2⟩ := Tri.over rfl HT5.out.drew hr6 hg6
        exact ⟨(blk6 k1.1).2.2.1, (HX5.out.moved k2.undrew).1⟩
      · refine wpAnyH_done (by kernel_rfl) ?_ _
        rw [HS.out] at hr6
        obtain ⟨k1, k2⟩ := Tri.over rfl HT5.out.drew hr6 hg6
        have HT6 : Hid (Tri w6 t (.slice (some ⟨g, 0, none⟩) n cap) W M (A5.set q x5) r0 f5 c5) := k1
        have HM6 : Hid (Moved w w6 t _ (.slice (some ⟨g, 0, none⟩) n cap)) := HM5.out.trans k2.undrew
        clear k1 k2 hr6 hg6 hK' HT5 HM5 HX5 hS1
        simp only [List.getElem_toArray, List.getElem_cons_succ, List.getElem_cons_zero, Act.put, List.setIfInBounds_toArray, List.set_cons_zero, List.set_cons_succ]
        go_wp2_with (fail)
        go_ret
        rw [EF.out, HF.out]
        exact ⟨rfl, _, HT6.out, HM6.out⟩
theorem shrinkC (W k n : Nat) (hW : W ≤ 32) (hn : n ≤ W) (hk : k < 4294967296) : ∀ d, ShrP W k n d
  | 0 => fun t v M A r0 f c r len w h bd hr hway hA hc0 hc hlen => by
    obtain rfl : len = n := by omega
    exact shrinkZ k len t v W M A r0 f c r _ w h hway hr hA (by omega) hc (by omega)
  | d + 1 => shrinkS W k n d hW hn hk (shrinkC W k n hW hn hk d)
end Go.Proofs.Ytfbkjghipahipaa
