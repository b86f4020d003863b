/-
  grow, the step. Written by tools/mkTrH.py.
-/
import Derived.Test.YtfbkjghipahipaaTrI
namespace Go.Proofs.Ytfbkjghipahipaa
open Go.RowKit
set_option linter.unusedVariables false
set_option linter.unusedSimpArgs false

theorem idx_kid (B s : Nat) (hs : s = 0 ∨ s = 1) (w : World) : (Instr.indexAt 68 (.pointer (some ⟨B, 0, none⟩)) (.int .i64 (s : Int))).run Try.prog w = .ok (.pointer (some ⟨B, s, none⟩)) w := by
  rcases hs with rfl | rfl <;> simp [Instr.indexAt, go_sem]
theorem kid_cell {w : World} {B s : Nat} {d : Nd} (hs : s = 0 ∨ s = 1) (h : w.heap[B]? = some (.cells #[.int .i64 (d.a : Int), .int .i64 (d.b : Int), .bool d.h, .int .i64 d.v] 70)) : w.cell? ⟨B, s, none⟩ = some (.int .i64 (kidA d s : Int)) := by
  rcases hs with rfl | rfl
  · exact blk_cell h rfl
  · exact blk_cell h rfl
theorem kid_set {w : World} {t : Nat} {v : Value} {B s m : Nat} {d : Nd} (hs : s = 0 ∨ s = 1) (h : Kb w t v B (.cells #[.int .i64 (d.a : Int), .int .i64 (d.b : Int), .bool d.h, .int .i64 d.v] 70)) : Kb (w.setCell ⟨B, s, none⟩ (.int .i64 (m : Int))) t v B (.cells #[.int .i64 (((setK d s m)).a : Int), .int .i64 (((setK d s m)).b : Int), .bool ((setK d s m)).h, .int .i64 ((setK d s m)).v] 70) := by
  rcases hs with rfl | rfl
  · exact h.set _
  · exact h.set _
/-- What grow does, where d bits are left. -/
def GrowP (x : En) (W d : Nat) : Prop := ∀ (t : Nat) (v : Value) (M : Nat) (A : List Nd) (r0 f c r len : Nat) (w : World), Tri w t v W M A r0 f c → Bd ⟨A, f, c⟩ → r ≤ A.length → A.length + d ≤ 4294967200 → c + d ≤ 4294967200 → len + d = x.n →
    Calls Try.prog 34 #[.pointer (some ⟨t, 0, none⟩), .int .i64 (r : Int), .agg #[.int .u32 (x.k : Int), .int .i64 (x.n : Int), .int .i64 x.v], .int .i64 (len : Int)] w fun e w' => e = .returned (.int .i64 ((grw d (W - len) ⟨A, f, c⟩ r x).2 : Int)) ∧ ∃ v', Tri w' t v' W M (grw d (W - len) ⟨A, f, c⟩ r x).1.A r0 (grw d (W - len) ⟨A, f, c⟩ r x).1.f (grw d (W - len) ⟨A, f, c⟩ r x).1.c ∧ Moved w w' t v v'
theorem grw1 (d h : Nat) (s : Ar) (r : Nat) (x : En) : grw (d + 1) h s r x = (⟨(grw d (h - 1) (tkr s r).1 (kidA (gt (tkr s r).1.A (tkr s r).2) (sid x.k h)) x).1.A.set ((tkr s r).2 - 1) (setK (gt (tkr s r).1.A (tkr s r).2) (sid x.k h) (grw d (h - 1) (tkr s r).1 (kidA (gt (tkr s r).1.A (tkr s r).2) (sid x.k h)) x).2), (grw d (h - 1) (tkr s r).1 (kidA (gt (tkr s r).1.A (tkr s r).2) (sid x.k h)) x).1.f, (grw d (h - 1) (tkr s r).1 (kidA (gt (tkr s r).1.A (tkr s r).2) (sid x.k h)) x).1.c⟩, (tkr s r).2) := rfl
set_option maxHeartbeats 8000000 in
set_option maxRecDepth 20000 in
theorem growS (x : En) (W d : Nat) (hW : W ≤ 32) (hxn : x.n ≤ W) (hxk : x.k < 4294967296) (ih : GrowP x W d) : GrowP x W (d + 1) := by
  intro t v M A r0 f c r len w h bd hr hA hc hlen
  rw [grw1]
  have hlt := h.lt
  have HT0 : Hid (Tri (w.alloc (.cells #[.int .u32 (x.k : Int), .int .i64 (x.n : Int), .int .i64 x.v] 45)) t v W M A r0 f c) := h.on ((Below.refl _ _).alloc (Nat.le_refl _) _)
  have HM0 : Hid (Moved w (w.alloc (.cells #[.int .u32 (x.k : Int), .int .i64 (x.n : Int), .int .i64 x.v] 45)) t v v) := Moved.of_below ((Below.refl _ _).alloc (Nat.le_refl _) _)
  have HK0 : Hid (Kb (w.alloc (.cells #[.int .u32 (x.k : Int), .int .i64 (x.n : Int), .int .i64 x.v] 45)) t v w.heap.size (.cells #[.int .u32 (x.k : Int), .int .i64 (x.n : Int), .int .i64 x.v] 45)) := ⟨blk_new w _, by omega, fun e => by have := h.own e; omega⟩
  obtain ⟨b1, b2, b3, b4, b5, b6⟩ := bd_tkr (r := r) bd hr
  have HTk : Hid (r = 0 → Calls Try.prog 43 #[.pointer (some ⟨t, 0, none⟩)] (w.alloc (.cells #[.int .u32 (x.k : Int), .int .i64 (x.n : Int), .int .i64 x.v] 45)) fun e w' => e = .returned (.int .i64 ((tkr ⟨A, f, c⟩ r).2 : Int)) ∧ ∃ v', Tri w' t v' W M (tkr ⟨A, f, c⟩ r).1.A r0 (tkr ⟨A, f, c⟩ r).1.f (tkr ⟨A, f, c⟩ r).1.c ∧ Moved (w.alloc (.cells #[.int .u32 (x.k : Int), .int .i64 (x.n : Int), .int .i64 x.v] 45)) w' t v v') := fun e => by
    have := takC t v W M A r0 f c (w.alloc (.cells #[.int .u32 (x.k : Int), .int .i64 (x.n : Int), .int .i64 x.v] 45)) HT0.out bd (by omega) (by omega)
    unfold tkr; rw [if_pos e]; exact this
  have HTn : Hid (r ≠ 0 → tkr ⟨A, f, c⟩ r = (⟨A, f, c⟩, r)) := fun e => by show tkr _ _ = _; unfold tkr; rw [if_neg e]
  generalize tkr ⟨A, f, c⟩ r = T at *
  obtain ⟨⟨A1, f1, c1⟩, r1⟩ := T
  dsimp only at *
  obtain ⟨q, rfl⟩ : ∃ q, r1 = q + 1 := ⟨r1 - 1, by omega⟩
  clear h bd
  have hkid := kid_le b1 (q + 1) (sid x.k (W - len))
  have hg := bd_grw x d (W - len - 1) ⟨A1, f1, c1⟩ (kidA (gt A1 (q + 1)) (sid x.k (W - len))) b1 hkid
  dsimp only at hkid hg
  go_enter Try.func34, Try.ntmps34
  go_upto_if 12 with (fail)
  go_cut [1] (fun nv wx => ∃ v1 : Value, nv = .int .i64 ((q : Int) + 1) ∧ Hid (Tri wx t v1 W M A1 r0 f1 c1) ∧ Hid (Moved w wx t v v1) ∧ Hid (Kb wx t v1 w.heap.size (.cells #[.int .u32 (x.k : Int), .int .i64 (x.n : Int), .int .i64 x.v] 45)))
  case first =>
    by_cases hz : r = 0
    · have hz' : (r : Int) = 0 := by omega
      have htk := HTk.out hz
      go_wp2_with (fail)
      refine htk.mono ?_
      rintro e w1 ⟨rfl, v1, k1, k2⟩
      have K1 : Hid (Tri w1 t v1 W M A1 r0 f1 c1) := k1
      have K2 : Hid (Moved (w.alloc (.cells #[.int .u32 (x.k : Int), .int .i64 (x.n : Int), .int .i64 x.v] 45)) w1 t v v1) := k2
      clear k1 k2 htk
      go_wp2_with (fail)
      go_meet
      case rel => exact ⟨v1, by first | rfl | rw [show ((q + 1 : Nat) : Int) = (q : Int) + 1 by omega], K1.out, HM0.out.trans K2.out, HK0.out.moved K2.out⟩
    · have hz' : ¬ (r : Int) = 0 := by omega
      have e := HTn.out hz
      cases e
      have hqq : (((q + 1 : Nat) : Int)) = (q : Int) + 1 := by omega
      rw [hqq] at hz' ⊢
      go_wp2_with (fail)
      go_meet
      case rel => exact ⟨v, rfl, HT0.out, HM0.out, HK0.out⟩
  case rest =>
    obtain ⟨v1, rfl, HT1, HM1, HK1⟩ := hcut
    have hnd := nodeC t v1 W M A1 r0 f1 c1 (q + 1) _ HT1.out (by omega) (by omega) b3
    rw [show ((q + 1 : Nat) : Int) = (q : Int) + 1 by omega] at hnd
    obtain ⟨d0, hd0⟩ : ∃ d0, d0 = gt A1 (q + 1) := ⟨_, rfl⟩
    rw [← hd0] at hnd
    have HD : Hid (d0 = gt A1 (q + 1)) := hd0
    clear hd0
    go_wp2_with (fail)
    refine hnd.mono ?_
    rintro e w2 ⟨rfl, hb⟩
    have HT2 : Hid (Tri w2 t v1 W M A1 r0 f1 c1) := HT1.out.on hb
    have HM2 : Hid (Moved w w2 t v v1) := HM1.out.trans (Moved.of_below hb)
    have HK2 : Hid (Kb w2 t v1 w.heap.size (.cells #[.int .u32 (x.k : Int), .int .i64 (x.n : Int), .int .i64 x.v] 45)) := HK1.out.on hb
    clear hb hnd HT1 HM1 HK1 HTk HTn HT0 HM0 HK0
    have hx2 : (w2.alloc (.cells #[.int .i64 (d0.a : Int), .int .i64 (d0.b : Int), .bool d0.h, .int .i64 d0.v] 70)).heap[w2.heap.size]? = some (.cells #[.int .i64 (d0.a : Int), .int .i64 (d0.b : Int), .bool d0.h, .int .i64 d0.v] 70) := blk_new w2 _
    have bA : Below w2.heap.size w2 (w2.alloc (.cells #[.int .i64 (d0.a : Int), .int .i64 (d0.b : Int), .bool d0.h, .int .i64 d0.v] 70)) := (Below.refl _ _).alloc (Nat.le_refl _) _
    have HT3 : Hid (Tri (w2.alloc (.cells #[.int .i64 (d0.a : Int), .int .i64 (d0.b : Int), .bool d0.h, .int .i64 d0.v] 70)) t v1 W M A1 r0 f1 c1) := HT2.out.on bA
    have HM3 : Hid (Moved w (w2.alloc (.cells #[.int .i64 (d0.a : Int), .int .i64 (d0.b : Int), .bool d0.h, .int .i64 d0.v] 70)) t v v1) := HM2.out.trans (Moved.of_below bA)
    have HK3 : Hid (Kb (w2.alloc (.cells #[.int .i64 (d0.a : Int), .int .i64 (d0.b : Int), .bool d0.h, .int .i64 d0.v] 70)) t v1 w.heap.size (.cells #[.int .u32 (x.k : Int), .int .i64 (x.n : Int), .int .i64 x.v] 45)) := HK2.out.on bA
    have HX3 : Hid (Kb (w2.alloc (.cells #[.int .i64 (d0.a : Int), .int .i64 (d0.b : Int), .bool d0.h, .int .i64 d0.v] 70)) t v1 w2.heap.size (.cells #[.int .i64 (d0.a : Int), .int .i64 (d0.b : Int), .bool d0.h, .int .i64 d0.v] 70)) := ⟨hx2, by have := HT2.out.lt; omega, fun e => by have := HT2.out.own e; omega⟩
    have HE : Hid (w.heap.size < w2.heap.size) := HK2.out.lt
    obtain ⟨y0, y1, y2⟩ := blk3 HK3.out.1
    obtain ⟨z0, z1, z2⟩ := blk3 HK2.out.1
    obtain ⟨x0, x1, x2, x3⟩ := blk4 hx2
    have hlt2 := HT2.out.lt
    have hne2 : ¬ t = w2.heap.size := by omega
    have hne3 : ¬ w.heap.size = w2.heap.size := by have := HE.out; omega
    clear bA HM2 HK2
    have hsd := sideC t W len x.k (w2.alloc (.cells #[.int .i64 (d0.a : Int), .int .i64 (d0.b : Int), .bool d0.h, .int .i64 d0.v] 70)) HT3.out.wid (by omega) hW hxk
    have hs : sid x.k (W - len) = 0 ∨ sid x.k (W - len) = 1 := sid_lt
    have hlx : ¬ (len : Int) = (x.n : Int) := by omega
    obtain ⟨s, hse⟩ : ∃ s, s = sid x.k (W - len) := ⟨_, rfl⟩
    have HSd : Hid (s = sid x.k (W - len)) := hse
    rw [← hse] at hs hsd
    rw [← HD.out, ← hse] at hkid hg
    clear hse
    go_wp2_with (fail)
    refine hsd.mono ?_
    rintro e w9 ⟨rfl, hw⟩
    obtain rfl := hw.symm
    clear hw hsd
    go_upto_region 7 with (fail)
    clear z0 z1 z2 hx2 x0 x1 x2 x3 y0 y1 y2 HT2
    generalize w2.alloc (.cells #[.int .i64 (d0.a : Int), .int .i64 (d0.b : Int), .bool d0.h, .int .i64 d0.v] 70) = W3 at *
    generalize w2.heap.size = XB at *
    clear w2
    have hwl : IntKind.i64.wrap ((len : Int) + 1) = (len : Int) + 1 := by rw [IntKind.wrap_i64]; omega
    have hlw : W - (len + 1) = W - len - 1 := by omega
    have hl1 : ((len + 1 : Nat) : Int) = (len : Int) + 1 := by omega
    refine wp_region_held_drew (S := fun w' => w'.heap[w.heap.size]? = some (.cells #[.int .u32 (x.k : Int), .int .i64 (x.n : Int), .int .i64 x.v] 45)) (by kernel_rfl) HK3.out.1 (fun hS1 => ?_)
    show wpAnyH _ _ _ _ _ 13 _ _ _
    refine wpAnyH_take (i := 0) (v := .int .i64 (s : Int)) rfl (by kernel_rfl) (by kernel_rfl) (by kernel_rfl) (fun _ _ _ h => h) (.inl ⟨rfl, fun _ _ => by simp [execOp, go_sem]⟩) hS1 ?_
    simp only [List.getElem_toArray, List.getElem_cons_succ, List.getElem_cons_zero, Act.put, List.setIfInBounds_toArray, List.set_cons_zero, List.set_cons_succ]
    refine wpAnyH_take (i := 1) (v := .pointer (some ⟨t, 0, none⟩)) rfl (by kernel_rfl) (by kernel_rfl) (by kernel_rfl) (fun _ _ _ h => h) (.inl ⟨rfl, fun _ _ => by simp [execOp, go_sem]⟩) hS1 ?_
    simp only [List.getElem_toArray, List.getElem_cons_succ, List.getElem_cons_zero, Act.put, List.setIfInBounds_toArray, List.set_cons_zero, List.set_cons_succ]
    refine wpAnyH_take (i := 2) (v := .int .i64 (s : Int)) rfl (by kernel_rfl) (by kernel_rfl) (by kernel_rfl) (fun _ _ _ h => h) (.inl ⟨rfl, fun _ _ => by simp [execOp, go_sem]⟩) hS1 ?_
    simp only [List.getElem_toArray, List.getElem_cons_succ, List.getElem_cons_zero, Act.put, List.setIfInBounds_toArray, List.set_cons_zero, List.set_cons_succ]
    refine wpAnyH_take (i := 3) (v := .pointer (some ⟨XB, 0, none⟩)) rfl (by kernel_rfl) (by kernel_rfl) (by kernel_rfl) (fun _ _ _ h => h) (.inl ⟨rfl, fun _ _ => by simp [execOp, go_sem]⟩) hS1 ?_
    simp only [List.getElem_toArray, List.getElem_cons_succ, List.getElem_cons_zero, Act.put, List.setIfInBounds_toArray, List.set_cons_zero, List.set_cons_succ]
    refine wpAnyH_take (i := 4) (v := .pointer (some ⟨XB, s, none⟩)) rfl (by kernel_rfl) (by kernel_rfl) (by kernel_rfl) (fun _ _ _ h => h) (yieldsIf_index rfl 68 (.tmp 34) (.tmp 33) rfl _ (fun w => idx_kid XB s hs w)) hS1 ?_
    simp only [List.getElem_toArray, List.getElem_cons_succ, List.getElem_cons_zero, Act.put, List.setIfInBounds_toArray, List.set_cons_zero, List.set_cons_succ]
    refine wpAnyH_take (i := 6) (v := .agg #[.int .u32 (x.k : Int), .int .i64 (x.n : Int), .int .i64 x.v]) rfl (by kernel_rfl) (by kernel_rfl) (by kernel_rfl) (fun _ _ _ h => h) (yieldsIf_load_mid rfl 45 (.tmp 6) rfl w.heap.size 0 rfl [.int .u32 (x.k : Int), .int .i64 (x.n : Int), .int .i64 x.v] _ (fun w' hw' => by have := World.rangeAt_of_block hw' 0 3; simpa using this) Try.underlying45 rfl (by kernel_rfl)) hS1 ?_
    simp only [List.getElem_toArray, List.getElem_cons_succ, List.getElem_cons_zero, Act.put, List.setIfInBounds_toArray, List.set_cons_zero, List.set_cons_succ]
    refine wpAnyH_take (i := 7) (v := .int .i64 (len : Int)) rfl (by kernel_rfl) (by kernel_rfl) (by kernel_rfl) (fun _ _ _ h => h) (.inl ⟨rfl, fun _ _ => by simp [execOp, go_sem]⟩) hS1 ?_
    simp only [List.getElem_toArray, List.getElem_cons_succ, List.getElem_cons_zero, Act.put, List.setIfInBounds_toArray, List.set_cons_zero, List.set_cons_succ]
    refine wpAnyH_take (i := 8) (v := .int .i64 ((len : Int) + 1)) rfl (by kernel_rfl) (by kernel_rfl) (by kernel_rfl) (fun _ _ _ h => h) (.inl ⟨rfl, fun _ _ => by simp [execOp, go_sem, hwl]⟩) hS1 ?_
    simp only [List.getElem_toArray, List.getElem_cons_succ, List.getElem_cons_zero, Act.put, List.setIfInBounds_toArray, List.set_cons_zero, List.set_cons_succ]
    refine wpAnyH_take (i := 10) (v := .pointer (some ⟨XB, 0, none⟩)) rfl (by kernel_rfl) (by kernel_rfl) (by kernel_rfl) (fun _ _ _ h => h) (.inl ⟨rfl, fun _ _ => by simp [execOp, go_sem]⟩) hS1 ?_
    simp only [List.getElem_toArray, List.getElem_cons_succ, List.getElem_cons_zero, Act.put, List.setIfInBounds_toArray, List.set_cons_zero, List.set_cons_succ]
    refine wpAnyH_all (rs := [5]) (by kernel_rfl) (by simp) ?_
    intro i hi
    simp only [List.mem_cons, List.not_mem_nil, or_false] at hi
    subst hi
    refine wpOp_of_wp rfl rfl (fun K' hK' => ?_)
    have cx : W3.drew.cell? ⟨XB, s, none⟩ = some (.int .i64 (kidA d0 s : Int)) := kid_cell hs HX3.out.1
    go_wp2_with (fail)
    refine ⟨hS1, ?_⟩
    clear cx
    refine wpAnyH_all (rs := [9]) (by kernel_rfl) (by simp) ?_
    intro i hi
    simp only [List.mem_cons, List.not_mem_nil, or_false] at hi
    subst hi
    refine wpOp_of_wp rfl rfl (fun K' hK' => ?_)
    go_wp2_with (go_at_call 34; refine (ih t v1 M A1 r0 f1 c1 (kidA d0 s) (len + 1) _ HT3.out.drew b1 hkid (by omega) (by omega) (by omega)).mono ?_; rw [hlw]; rintro e w4 ⟨rfl, v4, k1, k2⟩)
    have HX4 : Hid (Kb w4 t v4 XB (.cells #[.int .i64 (d0.a : Int), .int .i64 (d0.b : Int), .bool d0.h, .int .i64 d0.v] 70)) := HX3.out.moved k2.undrew
    have HK4 : Hid (Kb w4 t v4 w.heap.size (.cells #[.int .u32 (x.k : Int), .int .i64 (x.n : Int), .int .i64 x.v] 45)) := HK3.out.moved k2.undrew
    have HT4 : Hid (Tri w4 t v4 W M (grw d (W - len - 1) ⟨A1, f1, c1⟩ (kidA d0 s) x).1.A r0 (grw d (W - len - 1) ⟨A1, f1, c1⟩ (kidA d0 s) x).1.f (grw d (W - len - 1) ⟨A1, f1, c1⟩ (kidA d0 s) x).1.c) := k1
    have HM4 : Hid (Moved w w4 t v v4) := HM3.out.trans k2.undrew
    clear k1 k2 hS1 HT3 HM3 HX3 HK3
    have hS4 : w4.heap[w.heap.size]? = some (.cells #[.int .u32 (x.k : Int), .int .i64 (x.n : Int), .int .i64 x.v] 45) := HK4.out.1
    refine ⟨hS4, ?_⟩
    generalize hgg : grw d (W - len - 1) ⟨A1, f1, c1⟩ (kidA d0 s) x = gg at *
    obtain ⟨⟨A5, f5, c5⟩, m⟩ := gg
    have HG : Hid (grw d (W - len - 1) ⟨A1, f1, c1⟩ (kidA d0 s) x = (⟨A5, f5, c5⟩, m)) := hgg
    clear hgg
    dsimp only at *
    refine wpAnyH_take (i := 11) (v := .pointer (some ⟨XB, s, none⟩)) rfl (by kernel_rfl) (by kernel_rfl) (by kernel_rfl) (fun _ _ _ h => h) (yieldsIf_index rfl 68 (.tmp 41) (.tmp 31) rfl _ (fun w => idx_kid XB s hs w)) hS4 ?_
    simp only [List.getElem_toArray, List.getElem_cons_succ, List.getElem_cons_zero, Act.put, List.setIfInBounds_toArray, List.set_cons_zero, List.set_cons_succ]
    refine wpAnyH_all (rs := [12]) (by kernel_rfl) (by simp) ?_
    intro i hi
    simp only [List.mem_cons, List.not_mem_nil, or_false] at hi
    subst hi
    refine wpOp_of_wp rfl rfl (fun K' hK' => ?_)
    have cx := kid_cell hs HX4.out.1
    have fx := blk_free HX4.out.1 s
    go_wp2_with (fail)
    have HX5 : Hid (Kb (w4.setCell ⟨XB, s, none⟩ (.int .i64 (m : Int))) t v4 XB (.cells #[.int .i64 (((setK d0 s m)).a : Int), .int .i64 (((setK d0 s m)).b : Int), .bool ((setK d0 s m)).h, .int .i64 ((setK d0 s m)).v] 70)) := kid_set hs HX4.out
    have HT5 : Hid (Tri (w4.setCell ⟨XB, s, none⟩ (.int .i64 (m : Int))) t v4 W M A5 r0 f5 c5) := HT4.out.far HX4.out.2.1 HX4.out.2.2 _
    have HM5 : Hid (Moved w (w4.setCell ⟨XB, s, none⟩ (.int .i64 (m : Int))) t v v4) := HM4.out.set (Nat.le_of_lt HE.out) _
    have HK5 : Hid (Kb (w4.setCell ⟨XB, s, none⟩ (.int .i64 (m : Int))) t v4 w.heap.size (.cells #[.int .u32 (x.k : Int), .int .i64 (x.n : Int), .int .i64 x.v] 45)) := ⟨blk_far HK4.out.1 (by have := HE.out; omega) _, HK4.out.2⟩
    clear cx fx HX4 HT4 HM4 HK4 hS4
    generalize w4.setCell ⟨XB, s, none⟩ (.int .i64 (m : Int)) = W5 at *
    refine ⟨HK5.out.1, ?_⟩
    refine wpAnyH_done (by kernel_rfl) ?_ _
    obtain ⟨x5, hx5⟩ : ∃ x5 : Nd, x5 = setK d0 s m := ⟨_, rfl⟩
    rw [← hx5] at HX5
    have HD5 : Hid (A5.set q x5 = A5.set (q + 1 - 1) (setK (gt A1 (q + 1)) (sid x.k (W - len)) m)) := by show _ = _; rw [hx5, HD.out, HSd.out, Nat.add_sub_cancel]
    clear HK5 hx5 HE
    go_upto_region 8 with (fail)
    obtain ⟨g, cap, hv5, hcap, hg⟩ := HT5.out.filled (by omega)
    obtain ⟨n, hn⟩ : ∃ n, n = A5.length := ⟨_, rfl⟩
    have HS : Hid (A5.take q ++ [x5] ++ A5.drop (q + [x5].length) = A5.set q x5) := take_set A5 q x5 (by omega)
    have hqn : q < n := by omega
    have hn0 : (n : Int) ≤ 4294967295 := by omega
    rw [← hn] at hcap hv5
    clear hn
    subst hv5
    have hix : (q : Int) < (n : Int) := by omega
    have hix2 : ¬ n ≤ q := by omega
    have hwq : IntKind.i64.wrap (q : Int) = (q : Int) := by rw [IntKind.wrap_i64]; omega
    refine wp_region_held_drew (S := fun w' => w'.cell? ⟨t, 2, none⟩ = some (.slice (some ⟨g, 0, none⟩) n cap) ∧ w'.heap[XB]? = some (.cells #[.int .i64 (x5.a : Int), .int .i64 (x5.b : Int), .bool x5.h, .int .i64 x5.v] 70)) (by kernel_rfl) ⟨(blk6 HT5.out.1).2.2.1, HX5.out.1⟩ (fun hS1 => ?_)
    show wpAnyH _ _ _ _ _ 9 _ _ _
    refine wpAnyH_take (i := 0) (v := .pointer (some ⟨t, 0, none⟩)) rfl (by kernel_rfl) (by kernel_rfl) (by kernel_rfl) (fun _ _ _ h => h) (.inl ⟨rfl, fun _ _ => by simp [execOp, go_sem]⟩) hS1 ?_
    simp only [List.getElem_toArray, List.getElem_cons_succ, List.getElem_cons_zero, Act.put, List.setIfInBounds_toArray, List.set_cons_zero, List.set_cons_succ]
    refine wpAnyH_take (i := 1) (v := .pointer (some ⟨t, 0, none⟩)) rfl (by kernel_rfl) (by kernel_rfl) (by kernel_rfl) (fun _ _ _ h => h) (.inl ⟨rfl, fun _ _ => by simp [execOp, go_sem]⟩) hS1 ?_
    simp only [List.getElem_toArray, List.getElem_cons_succ, List.getElem_cons_zero, Act.put, List.setIfInBounds_toArray, List.set_cons_zero, List.set_cons_succ]
    refine wpAnyH_take (i := 2) (v := .pointer (some ⟨t, 2, none⟩)) rfl (by kernel_rfl) (by kernel_rfl) (by kernel_rfl) (fun _ _ _ h => h) (.inl ⟨rfl, fun _ _ => by simp [execOp, go_sem]⟩) hS1 ?_
    simp only [List.getElem_toArray, List.getElem_cons_succ, List.getElem_cons_zero, Act.put, List.setIfInBounds_toArray, List.set_cons_zero, List.set_cons_succ]
    refine wpAnyH_take (i := 3) (v := .slice (some ⟨g, 0, none⟩) n cap) rfl (by kernel_rfl) (by kernel_rfl) (by kernel_rfl) (fun _ _ _ h => h) (.inl ⟨rfl, fun w' hw' => by have hcc := hw'.1; simp [execOp, go_sem, hcc]⟩) hS1 ?_
    simp only [List.getElem_toArray, List.getElem_cons_succ, List.getElem_cons_zero, Act.put, List.setIfInBounds_toArray, List.set_cons_zero, List.set_cons_succ]
    refine wpAnyH_take (i := 4) (v := .int .i64 ((q : Int) + 1)) rfl (by kernel_rfl) (by kernel_rfl) (by kernel_rfl) (fun _ _ _ h => h) (.inl ⟨rfl, fun _ _ => by simp [execOp, go_sem]⟩) hS1 ?_
    simp only [List.getElem_toArray, List.getElem_cons_succ, List.getElem_cons_zero, Act.put, List.setIfInBounds_toArray, List.set_cons_zero, List.set_cons_succ]
    refine wpAnyH_take (i := 5) (v := .int .i64 (q : Int)) rfl (by kernel_rfl) (by kernel_rfl) (by kernel_rfl) (fun _ _ _ h => h) (.inl ⟨rfl, fun _ _ => by simp [execOp, go_sem, hwq]⟩) hS1 ?_
    simp only [List.getElem_toArray, List.getElem_cons_succ, List.getElem_cons_zero, Act.put, List.setIfInBounds_toArray, List.set_cons_zero, List.set_cons_succ]
    refine wpAnyH_take (i := 6) (v := .agg #[.int .i64 (x5.a : Int), .int .i64 (x5.b : Int), .bool x5.h, .int .i64 x5.v]) rfl (by kernel_rfl) (by kernel_rfl) (by kernel_rfl) (fun _ _ _ h => h) (yieldsIf_load_mid rfl 70 (.tmp 9) rfl XB 0 rfl [.int .i64 (x5.a : Int), .int .i64 (x5.b : Int), .bool x5.h, .int .i64 x5.v] _ (fun w' hw' => by have := World.rangeAt_of_block hw'.2 0 4; simpa using this) Try.underlying70 rfl (by kernel_rfl)) hS1 ?_
    simp only [List.getElem_toArray, List.getElem_cons_succ, List.getElem_cons_zero, Act.put, List.setIfInBounds_toArray, List.set_cons_zero, List.set_cons_succ]
    refine wpAnyH_take (i := 7) (v := .pointer (some ⟨g, q * 4, none⟩)) rfl (by kernel_rfl) (by kernel_rfl) (by kernel_rfl) (fun _ _ _ h => h) (yieldsIf_index rfl 56 (.tmp 46) (.tmp 48) rfl _ (fun w => by simp [Instr.indexAt, go_sem, hix, hix2])) hS1 ?_
    simp only [List.getElem_toArray, List.getElem_cons_succ, List.getElem_cons_zero, Act.put, List.setIfInBounds_toArray, List.set_cons_zero, List.set_cons_succ]
    refine wpAnyH_all (rs := [8]) (by kernel_rfl) (by simp) ?_
    intro i hi
    simp only [List.mem_cons, List.not_mem_nil, or_false] at hi
    subst hi
    refine wpOp_of_wp rfl rfl (fun K' hK' => ?_)
    refine wp_storeN (.tmp 50) (.tmp 49) rfl 0 g n cap A5 HT5.out.2.1 q hqn x5 rfl rfl (fun w6 hr6 hg6 => hK' _ _ ⟨?_, ?_⟩)
    · obtain ⟨k1, k2⟩ := Tri.over rfl HT5.out.drew hr6 hg6
      exact ⟨(blk6 k1.1).2.2.1, (HX5.out.moved k2.undrew).1⟩
    · refine wpAnyH_done (by kernel_rfl) ?_ _
      rw [HS.out] at hr6
      obtain ⟨k1, k2⟩ := Tri.over rfl HT5.out.drew hr6 hg6
      have HT6 : Hid (Tri w6 t (.slice (some ⟨g, 0, none⟩) n cap) W M (A5.set q x5) r0 f5 c5) := k1
      have HM6 : Hid (Moved w w6 t _ (.slice (some ⟨g, 0, none⟩) n cap)) := HM5.out.trans k2.undrew
      clear k1 k2 hr6 hg6 hK' HT5 HM5 HX5 hS1
      simp only [List.getElem_toArray, List.getElem_cons_succ, List.getElem_cons_zero, Act.put, List.setIfInBounds_toArray, List.set_cons_zero, List.set_cons_succ]
      go_wp2_with (fail)
      go_ret
      refine ⟨rfl, _, ?_, HM6.out⟩
      have k6 := HT6.out
      rw [HD5.out] at k6
      have eg : grw d (W - len - 1) ⟨A1, f1, c1⟩ (kidA (gt A1 (q + 1)) (sid x.k (W - len))) x = (⟨A5, f5, c5⟩, m) := by rw [← HD.out, ← HSd.out]; exact HG.out
      rw [eg]
      exact k6
theorem growC (x : En) (W : Nat) (hW : W ≤ 32) (hxn : x.n ≤ W) (hxk : x.k < 4294967296) : ∀ d, GrowP x W d
  | 0 => fun t v M A r0 f c r len w h bd hr hA hc hlen => by
    obtain rfl : len = x.n := by omega
    exact growZ x t v W M A r0 f c r w h bd hr (by omega) (by omega) (by omega) _
  | d + 1 => growS x W d hW hxn hxk (growC x W hW hxn hxk d)
end Go.Proofs.Ytfbkjghipahipaa
