/-
  The statements' own helpers: lent (a list in memory of its own, two marks behind it), back (is it as it was?).
-/
import Derived.Test.YthmekipdhlipbabSpMe
namespace Go.Proofs.Ythmekipdhlipbab
open Go.RowKit
set_option linter.unusedVariables false
set_option linter.unusedSimpArgs false

theorem flat_set : ∀ (l : List (Nat × Nat)) (k x y : Nat), k < l.length → ((flat l).set (k * 2) (.int .u16 (x : Int))).set (k * 2 + 1) (.int .u16 (y : Int)) = flat (l.set k (x, y))
  | p :: l, 0, x, y, _ => rfl
  | p :: l, k + 1, x, y, h => by
    have := flat_set l k x y (by simpa using h)
    rw [show (k + 1) * 2 = k * 2 + 2 by omega]
    simp only [flat, List.set_cons_succ]
    rw [this]
/-- A span of a row is written over. -/
theorem Row.setAt {w : World} {b g cap n : Nat} {l : List (Nat × Nat)} (h : Row w b (.slice (some ⟨g, 0, none⟩) n cap) l) {k : Nat} (hk : k < l.length) (x y : Nat) :
    Row ((w.setCell ⟨g, k * 2, none⟩ (.int .u16 (x : Int))).setCell ⟨g, k * 2 + 1, none⟩ (.int .u16 (y : Int))) b (.slice (some ⟨g, 0, none⟩) n cap) (l.set k (x, y)) := by
  have h' : w.ownsRow b 31 2 (.slice (some ⟨g, 0, none⟩) n cap) l.length (flat l) := h
  have hn : n = l.length := by
    rcases h'.2 with ⟨hv, _⟩ | ⟨_, _, _, hv, _⟩
    · cases hv
    · cases hv; rfl
  rw [hn] at h' ⊢
  have s1 := h'.stored (k * 2) (.int .u16 (x : Int))
  have s2 := s1.1.stored (k * 2 + 1) (.int .u16 (y : Int))
  have := s2.1
  rw [flat_set l k x y hk] at this
  unfold Row
  rw [List.length_set]
  exact this
theorem Row.cells {w : World} {b g cap n : Nat} {l : List (Nat × Nat)} (h : Row w b (.slice (some ⟨g, 0, none⟩) n cap) l) {k : Nat} (hk : k < l.length) :
    w.cell? ⟨g, k * 2, none⟩ = some (.int .u16 ((l[k]).1 : Int)) ∧ w.cell? ⟨g, k * 2 + 1, none⟩ = some (.int .u16 ((l[k]).2 : Int)) := by
  obtain ⟨ad, cap', e, _, h3⟩ := h.form
  obtain ⟨g', e2, _, _, h4⟩ := h3 (by omega)
  cases e
  cases e2
  exact h4 k hk
theorem made_two {w w1 : World} {l : List (Nat × Nat)} (hl : l.length ≤ 4294967296)
    (hg : w1.heap[w.heap.size]? = some (.cells (flat l ++ (madeCells #[Value.int .u16 0, Value.int .u16 0] ((l.length + 2) * 2)).toList.drop (l.length * 2)).toArray 31 (0, 0))) :
    Row w1 w.heap.size (.slice (some ⟨w.heap.size, 0, none⟩) (l.length + 2) (l.length + 2)) (l ++ [(0, 0), (0, 0)]) := by
  have e : (madeCells #[Value.int .u16 0, Value.int .u16 0] ((l.length + 2) * 2)).toList.drop (l.length * 2) = flat [(0, 0), (0, 0)] := by
    apply List.ext_getElem?
    intro j
    rw [List.getElem?_drop]
    by_cases hj : j < 4
    · have h1 : l.length * 2 + j < (l.length + 2) * 2 := by omega
      have h2 : (l.length * 2 + j) % 2 = j % 2 := by omega
      rw [Array.getElem?_toList]
      simp only [madeCells, Array.getElem?_map, Array.getElem?_range, if_pos h1, Option.map_some, List.size_toArray, List.length_cons, List.length_nil]
      rw [show (l.length * 2 + j) % (0 + 1 + 1) = j % 2 from h2]
      match j, hj with
      | 0, _ => rfl
      | 1, _ => rfl
      | 2, _ => rfl
      | 3, _ => rfl
    · rw [List.getElem?_eq_none (by rw [Array.length_toList, size_madeCells]; omega), List.getElem?_eq_none (by simp [flat]; omega)]
  rw [e, ← flat_append] at hg
  have hlen : (l ++ [(0, 0), (0, 0)]).length = l.length + 2 := by simp
  refine ⟨flat_length _, .inr ⟨w.heap.size, l.length + 2, _, by rw [hlen], Nat.le_refl _, hg, by rw [hlen]; exact Nat.le_refl _, by unfold maxLen; omega, by simp [flat_length], by rw [← flat_length]; simp⟩⟩
set_option maxHeartbeats 1000000 in
theorem lentS (l : List (Nat × Nat)) (v : Value) (w : World) (h : Src w v l) (hl : l.length ≤ 1048576) :
    Calls Try.prog 8 #[v] w fun e w' => ∃ g, e = .returned (.slice (some ⟨g, 0, none⟩) l.length (l.length + 2)) ∧ w.heap.size ≤ g ∧ g < w'.heap.size ∧
      Row w' w.heap.size (.slice (some ⟨g, 0, none⟩) (l.length + 2) (l.length + 2)) (l ++ [(7, 3), (8, 3)]) ∧ Below w.heap.size w w' := by
  obtain ⟨i0, hi, hz0, hz1, hz2⟩ := info_parts info_sp
  have hmk := fun W => run_make (P := Try.prog) W 22 31 i0 (.agg #[.int .u16 0, .int .u16 0]) Try.underlying22 hi hz0 .i64 .i64 ((l.length : Int) + 2) ((l.length : Int) + 2) (by omega) (Int.le_refl _) (by rw [hz2]; omega) (by omega)
  have e2 : ((l.length : Int) + 2).toNat = l.length + 2 := by omega
  simp only [hz1, e2] at hmk
  have h' := h
  obtain ⟨ad, cap, rfl, _⟩ := h'
  have hs1 := h.keep ((Below.refl _ _).alloc (Nat.le_refl _) (.cells (madeCells #[Value.int .u16 0, Value.int .u16 0] ((l.length + 2) * 2)) 31))
  obtain ⟨w1, hr, hg1, hgr1⟩ := run_copy_src _ 3 w.heap.size (l.length + 2) (l.length + 2) _ (heap_alloc_new w _) _ l hs1 (by omega) (by rw [size_madeCells]; omega)
  have HG : Hid (Row w1 w.heap.size (.slice (some ⟨w.heap.size, 0, none⟩) (l.length + 2) (l.length + 2)) (l ++ [(0, 0), (0, 0)])) := made_two (by omega) hg1
  have HB1 : Hid (Below w.heap.size w w1) := ((Below.refl _ _).alloc (Nat.le_refl _) _).grown hgr1 (by simp) (fun k hk => by simp at hk; omega)
  have hz1' := hgr1.size
  simp at hz1'
  clear hg1 hs1 h hi hz0 hz1 hz2 hgr1 e2
  generalize hgg : w.heap.size = g at *
  go_enter Try.func8, Try.ntmps8
  go_wp2_with (fail)
  refine (ofS 7 3 _).mono ?_
  rintro e w2 ⟨rfl, hb2⟩
  have R2 : Hid (Row w2 g (.slice (some ⟨g, 0, none⟩) (l.length + 2) (l.length + 2)) (l ++ [(0, 0), (0, 0)])) := HG.out.on hb2
  have B2 : Hid (Below g w w2) := HB1.out.trans (hb2.mono (by omega))
  have hz2 := hb2.size
  obtain ⟨y0, y1⟩ := R2.out.cells (k := l.length) (by simp)
  have f0 := R2.out.frozen (l.length * 2)
  have f1 := R2.out.frozen (l.length * 2 + 1)
  clear hb2 HG HB1
  have hn0 : (0 : Int) ≤ (l.length : Int) := by omega
  go_wp2_with (fail)
  refine (ofS 8 3 _).mono ?_
  rintro e w3 ⟨rfl, hb3⟩
  have R3 : Hid (Row w3 g (.slice (some ⟨g, 0, none⟩) (l.length + 2) (l.length + 2)) ((l ++ [(0, 0), (0, 0)]).set l.length (7, 3))) := (R2.out.setAt (by simp) 7 3).on hb3
  have B3 : Hid (Below g w w3) := ((B2.out.setCell (by show g ≤ g; omega) _).setCell (by show g ≤ g; omega) _).trans (hb3.mono (by simp [World.setCell]; omega))
  have hz3 := hb3.size
  simp [World.setCell] at hz3
  obtain ⟨z0, z1⟩ := R3.out.cells (k := l.length + 1) (by simp)
  have q0 := R3.out.frozen ((l.length + 1) * 2)
  have q1 := R3.out.frozen ((l.length + 1) * 2 + 1)
  clear hb3 y0 y1 f0 f1
  go_wp2
  go_ret
  refine ⟨g, rfl, Nat.le_refl _, by simp [World.setCell]; omega, ?_, (B3.out.setCell (by show g ≤ g; omega) _).setCell (by show g ≤ g; omega) _⟩
  have := R3.out.setAt (k := l.length + 1) (by simp) 8 3
  have e : ((l ++ [(0, 0), (0, 0)]).set l.length (7, 3)).set (l.length + 1) (8, 3) = l ++ [(7, 3), (8, 3)] := by
    rw [List.set_append_right _ _ (Nat.le_refl _), Nat.sub_self, List.set_append_right _ _ (by omega), Nat.add_sub_cancel_left]
    rfl
  rw [e] at this
  exact this
theorem of73 (w : World) : Calls Try.prog 23 #[.int .u16 7, .int .u16 3] w fun e w' => e = .returned (.agg #[.int .u16 7, .int .u16 3]) ∧ Below w.heap.size w w' := ofS 7 3 w
theorem of83 (w : World) : Calls Try.prog 23 #[.int .u16 8, .int .u16 3] w fun e w' => e = .returned (.agg #[.int .u16 8, .int .u16 3]) ∧ Below w.heap.size w w' := ofS 8 3 w
theorem Row.blk {w : World} {b g cap n : Nat} {l : List (Nat × Nat)} (h : Row w b (.slice (some ⟨g, 0, none⟩) n cap) l) : Blk w g cap := by
  rcases h.2 with ⟨hv, _⟩ | ⟨g', cap', cur, hv, _, hg, _, _, hs, _⟩
  · cases hv
  · cases hv; exact ⟨cur, hg, hs⟩
/-- The head of a row, read as a list. -/
theorem Row.head {w : World} {b g cap n m : Nat} {l k : List (Nat × Nat)} (h : Row w b (.slice (some ⟨g, 0, none⟩) n cap) (l ++ k)) (hm : m = l.length) (c : Nat) : Src w (.slice (some ⟨g, 0, none⟩) m c) l := by
  subst hm
  refine ⟨_, c, rfl, fun _ => ⟨g, 0, rfl, fun j u hu => ?_⟩⟩
  obtain ⟨ad, cap', e, h2⟩ := h.src
  have hj : j < (flat l).length := (List.getElem?_eq_some_iff.1 hu).1
  rw [flat_length] at hj
  obtain ⟨g', off, e2, h3⟩ := h2 (by simp; omega)
  have hh := World.ownsRow.cells (show w.ownsRow b 31 2 _ (l ++ k).length (flat (l ++ k)) from h) (g := g) rfl j u (by rw [flat_append, List.getElem?_append_left (by rw [flat_length]; exact hj)]; exact hu)
  rwa [Addr.add_lit] at hh
set_option maxHeartbeats 1000000 in
theorem backS (l : List (Nat × Nat)) (v : Value) (g b : Nat) (w : World) (hr : Row w b (.slice (some ⟨g, 0, none⟩) (l.length + 2) (l.length + 2)) (l ++ [(7, 3), (8, 3)])) (h : Src w v l) (hl : l.length ≤ 1048576) :
    Calls Try.prog 11 #[.slice (some ⟨g, 0, none⟩) l.length (l.length + 2), v] w fun e w' => e = .returned (.bool true) ∧ w.grownBy w' (some g) := by
  have HB : Hid (Blk w g (l.length + 2)) := hr.blk
  have HH : Hid (Src w (.slice (some ⟨g, 0, none⟩) l.length (l.length + 2)) l) := hr.head rfl _
  have HS : Hid (Src w v l) := h
  obtain ⟨a0, a1⟩ := hr.cells (k := l.length) (by simp)
  obtain ⟨b0, b1⟩ := hr.cells (k := l.length + 1) (by simp)
  simp only [List.getElem_append_right (Nat.le_refl l.length), Nat.sub_self, List.getElem_append_right (show l.length ≤ l.length + 1 by omega), Nat.add_sub_cancel_left] at a0 a1 b0 b1
  change w.cell? ⟨g, l.length * 2, none⟩ = some (.int .u16 7) at a0
  change w.cell? ⟨g, l.length * 2 + 1, none⟩ = some (.int .u16 3) at a1
  change w.cell? ⟨g, (l.length + 1) * 2, none⟩ = some (.int .u16 8) at b0
  change w.cell? ⟨g, (l.length + 1) * 2 + 1, none⟩ = some (.int .u16 3) at b1
  have hn0 : (0 : Int) ≤ (l.length : Int) := by omega
  have hgw : g < w.heap.size := HB.out.lt
  obtain ⟨ad, cap, rfl, _⟩ := h
  clear hr
  go_enter Try.func11, Try.ntmps11
  go_wp2_with (fail)
  have kne : Nonempty (Kin (w)) := ⟨⟨_, Below.refl _ _⟩⟩
  have kc0 : ∀ y : Kin (w), y.val.cell? ⟨g, l.length * 2, none⟩ = some (.int .u16 7) := fun y => by rw [kin_cell (by first | omega | (simp <;> omega))]; first | assumption | (simp [go_sem]; done) | simp [go_sem, *]
  have kc1 : ∀ y : Kin (w), y.val.cell? ⟨g, l.length * 2 + 1, none⟩ = some (.int .u16 3) := fun y => by rw [kin_cell (by first | omega | (simp <;> omega))]; first | assumption | (simp [go_sem]; done) | simp [go_sem, *]
  have kc2 : ∀ y : Kin (w), y.val.cell? ⟨g, (l.length + 1) * 2, none⟩ = some (.int .u16 8) := fun y => by rw [kin_cell (by first | omega | (simp <;> omega))]; first | assumption | (simp [go_sem]; done) | simp [go_sem, *]
  have kc3 : ∀ y : Kin (w), y.val.cell? ⟨g, (l.length + 1) * 2 + 1, none⟩ = some (.int .u16 3) := fun y => by rw [kin_cell (by first | omega | (simp <;> omega))]; first | assumption | (simp [go_sem]; done) | simp [go_sem, *]
  refine wp_region_kin (w) (Below.refl _ _) (by kernel_rfl) (by kernel_rfl) ?_
  repeat (go_big_quiet_step (first | (go_at_call 23; first | exact kin_call (of73 _) | exact kin_call (of83 _)) | (go_at_call 10; exact kin_call (sameS l (by omega) _ _ _ (Src.keep HH.out (Kin.is _)) (Src.keep HS.out (Kin.is _))))))
  refine wpQuiet_nil ?_
  rintro wq ⟨⟨xq, hxq⟩, hyq⟩
  have hq : Below (w).heap.size (w) wq := by rw [hyq]; exact hxq
  clear hyq hxq xq
  clear kne kc0 kc1 kc2 kc3
  obtain ⟨hcq, hfq⟩ := bcell hq
  have hzq := hq.size
  try simp at hzq
  have HBq : Hid (Blk wq g (l.length + 2)) := HB.out.on hq
  have HGq : Hid (w.grownBy wq (some g)) := grown_below ⟨rfl, rfl, rfl, Nat.le_refl _, fun _ _ _ => rfl⟩ hq
  clear hcq hfq hq a0 a1 b0 b1 HB HH HS
  generalize hN : l.length + 2 = N at *
  have hNb : N ≤ 1048578 := by omega
  clear hN
  go_wp2_with (fail)
  go_loopw [7] (fun iv wr => ∃ k : Nat, k ≤ N ∧ iv = .int .i64 k ∧ Hid (Blk wr g N) ∧ Hid (w.grownBy wr (some g))) (fun iv _ => N - (intOf iv).toNat)
  case atStart => exact ⟨0, Nat.zero_le _, rfl, HBq.out, HGq.out⟩
  case round =>
    obtain ⟨k, hk, rfl, hB, hG⟩ := hrel
    by_cases hlt : k < N
    · have hlt' : (k : Int) < (N : Int) := by omega
      have hk0 : (0 : Int) ≤ (k : Int) := by omega
      go_wp2_with (fail)
      refine (ofS 99 98 _).mono ?_
      rintro e w3 ⟨rfl, hb3⟩
      have HB3 : Hid (Blk w3 g N) := hB.out.on hb3
      have HG3 : Hid (w.grownBy w3 (some g)) := grown_below hG.out hb3
      obtain ⟨⟨u0, y0⟩, f0⟩ := HB3.out.cell (i := k * 2) (by omega)
      obtain ⟨⟨u1, y1⟩, f1⟩ := HB3.out.cell (i := k * 2 + 1) (by omega)
      clear hb3 hB hG
      go_wp2
      go_roundw
      case rel => exact ⟨k + 1, by omega, by go_num, (HB3.out.set _ _).set _ _, grown_set (grown_set HG3.out _ _) _ _⟩
      case measure => simp [intOf]; omega
    · have hlt' : ¬ (k : Int) < (N : Int) := by omega
      go_wp2
      go_ret
      exact ⟨rfl, hG.out⟩
end Go.Proofs.Ythmekipdhlipbab
