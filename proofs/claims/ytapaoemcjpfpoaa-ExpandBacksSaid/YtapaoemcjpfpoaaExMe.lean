/-
  The statements' own helpers: spoil (writes over what was told), lent (a list in memory of its own, two marks behind it), back (is it as it was?). Written by tools/mkExMe.py.
-/
import Derived.Test.YtapaoemcjpfpoaaExE
namespace Go.Proofs.Ytapaoemcjpfpoaa
open Go.RowKit
set_option linter.unusedVariables false
set_option linter.unusedSimpArgs false

/-- The row v of w holds the list (any Len). -/
def RowI (w : World) (base : Nat) (v : Value) (l : List (Nat × Int)) : Prop := w.ownsRow base 24 2 v l.length (flatI l)
theorem RowI.on {w w1 : World} {b : Nat} {v : Value} {l : List (Nat × Int)} (h : RowI w b v l) (hb : Below w.heap.size w w1) : RowI w1 b v l := by
  refine ⟨h.1, ?_⟩
  rcases h.2 with h2 | ⟨g, cap, cur, hv, hg, hh, r⟩
  · exact .inl h2
  · exact .inr ⟨g, cap, cur, hv, hg, by rw [hb.block g (Array.getElem?_eq_some_iff.1 hh).1]; exact hh, r⟩
theorem RowI.form {w : World} {b : Nat} {v : Value} {l : List (Nat × Int)} (h : RowI w b v l) :
    ∃ (ad : Option Addr) (cap : Nat), v = .slice ad l.length cap ∧ l.length ≤ cap ∧ (0 < l.length → ∃ g, ad = some ⟨g, 0, none⟩ ∧ b ≤ g ∧ g < w.heap.size ∧ ∀ k (hk : k < l.length), w.cell? ⟨g, k * 2, none⟩ = some (.int .u16 ((l[k]'hk).1 : Int)) ∧ w.cell? ⟨g, k * 2 + 1, none⟩ = some (.int .i64 ((l[k]'hk).2))) := by
  rcases h.2 with ⟨hv, hn⟩ | ⟨g, cap, cur, hv, hb, hg, hcap, r⟩
  · exact ⟨none, 0, by rw [hv, hn], by omega, fun h0 => by omega⟩
  · subst hv
    refine ⟨_, cap, rfl, hcap, fun _ => ⟨g, rfl, hb, (Array.getElem?_eq_some_iff.1 hg).1, fun k hk => ?_⟩⟩
    have h' : w.ownsRow b 24 2 (.slice (some ⟨g, 0, none⟩) l.length cap) l.length (flatI l) := h
    have hf := flatI_at l k hk
    exact ⟨by rw [h'.cellAt (k * 2) (by omega), hf.1], by rw [h'.cellAt (k * 2 + 1) (by omega), hf.2]⟩
theorem RowI.frozen {w : World} {b g cap n : Nat} {l : List (Nat × Int)} (h : RowI w b (.slice (some ⟨g, 0, none⟩) n cap) l) (j : Nat) : w.frozen? ⟨g, j, none⟩ = false := by
  rcases h.2 with ⟨hv, _⟩ | ⟨g', cap', cur, hv, hb, hg, r⟩
  · cases hv
  · cases hv; simp [World.frozen?, hg]
theorem RowI.src {w : World} {b : Nat} {v : Value} {l : List (Nat × Int)} (h : RowI w b v l) : SrcT w v l := by
  rcases h.2 with ⟨hv, hn⟩ | ⟨g, cap, cur, hv, hb, hg, r⟩
  · exact ⟨none, 0, by rw [hv, hn], fun h0 => by omega⟩
  · subst hv
    refine ⟨_, cap, rfl, fun _ => ⟨g, 0, rfl, fun j u hu => ?_⟩⟩
    have hh := World.ownsRow.cells (show w.ownsRow b 24 2 _ l.length (flatI l) from h) (g := g) rfl j u hu
    rw [Addr.add_lit] at hh
    exact hh
/-- 'copy' into a row that is known whole. -/
theorem run_copy_srcT (w : World) (ty : TypeId) (g dLen dCap : Nat) (cur : Array Value) (hg : w.heap[g]? = some (.cells cur 24 (0, 0))) (v : Value) (l : List (Nat × Int)) (hs : SrcT w v l)
    (hn : l.length ≤ dLen) (hfit : l.length * 2 ≤ cur.size) :
    ∃ w', (Builtin.copy_ #[33, 33] ty #[.slice (some ⟨g, 0, none⟩) dLen dCap, v]).run Try.prog w = .ok (goInt l.length) w' ∧
      w'.heap[g]? = some (.cells (flatI l ++ cur.toList.drop (l.length * 2)).toArray 24 (0, 0)) ∧ w.grownBy w' (some g) := by
  obtain ⟨i0, hi, hz0, hz1, hz2⟩ := info_parts info_st
  obtain ⟨ad, cap, rfl, h2⟩ := hs
  have hmin : Nat.min l.length dLen = l.length := Nat.min_eq_left hn
  by_cases h0 : 0 < l.length
  · obtain ⟨g2, off, rfl, h3⟩ := h2 h0
    have hl := run_loadCells_list (P := Try.prog) w ⟨g2, off, none⟩ (flatI l) (fun j u hu => by rw [Addr.add_lit]; exact h3 j u hu)
    rw [flatI_length] at hl
    have hst := run_storeCells_at Try.prog g 0 24 (flatI l) 0 cur w hg (by rw [flatI_length]; omega) (flatI_one l)
    refine ⟨_, ?_, setRow_heap w g cur _ _ _ hg, ⟨rfl, rfl, rfl, by simp, fun k _ hk => setRow_other w g k _ (fun e => hk (by simp [e]))⟩⟩
    simp only [Nat.zero_add, List.take_zero, List.nil_append, flatI_length, Nat.add_zero] at hst
    simp [Builtin.copy_, Try.runUnderlying33, Builtin.lenOf, Builtin.firstCells, sizeOf, typeInfo, hi, hz1, hmin, hl, hst]
  · have e : l = [] := List.eq_nil_of_length_eq_zero (by omega)
    subst e
    refine ⟨w, ?_, by simpa [flatI] using hg, ⟨rfl, rfl, rfl, Nat.le_refl _, fun _ _ _ => rfl⟩⟩
    have hl : ∀ (x : Addr), (loadCells x 0).run Try.prog w = .ok #[] w := fun x => by simpa using run_loadCells_list (P := Try.prog) w x [] (by simp)
    cases ad <;> simp [Builtin.copy_, Try.runUnderlying33, Builtin.lenOf, Builtin.firstCells, sizeOf, typeInfo, hi, hz1, storeCells, hl]
/-- A block of n stems' cells, whatever they hold. -/
def BlkT (w : World) (g n : Nat) : Prop := ∃ cur : Array Value, w.heap[g]? = some (.cells cur 24 (0, 0)) ∧ cur.size = n * 2
theorem BlkT.cell {w : World} {g n : Nat} (h : BlkT w g n) {i : Nat} (hi : i < n * 2) : (∃ u, w.cell? ⟨g, i, none⟩ = some u) ∧ w.frozen? ⟨g, i, none⟩ = false := by
  obtain ⟨cur, hg, hs⟩ := h
  exact ⟨⟨cur[i]'(by omega), by rw [cell_of_row w g i cur _ (0, 0) hg]; simp [show i < cur.size by omega]⟩, by simp [World.frozen?, hg]⟩
theorem BlkT.set {w : World} {g n : Nat} (h : BlkT w g n) (i : Nat) (u : Value) : BlkT (w.setCell ⟨g, i, none⟩ u) g n := by
  obtain ⟨cur, hg, hs⟩ := h
  exact ⟨cur.setIfInBounds i u, by simp [World.setCell, Array.getElem?_modify, hg], by simpa using hs⟩
theorem BlkT.lt {w : World} {g n : Nat} (h : BlkT w g n) : g < w.heap.size := by
  obtain ⟨cur, hg, _⟩ := h
  exact (Array.getElem?_eq_some_iff.1 hg).1
theorem BlkT.on {w w' : World} {g n : Nat} (h : BlkT w g n) (hb : Below w.heap.size w w') : BlkT w' g n := by
  obtain ⟨cur, hg, hs⟩ := h
  exact ⟨cur, (hb.block g (Array.getElem?_eq_some_iff.1 hg).1).trans hg, hs⟩
theorem grown_belowT {a w w' : World} {r : Option Nat} (h : a.grownBy w r) (hb : Below w.heap.size w w') : a.grownBy w' r :=
  h.trans ⟨hb.os, hb.tape, hb.output, hb.size, fun k hk _ => hb.block k hk⟩
theorem grown_setT {a w : World} {g : Nat} (h : a.grownBy w (some g)) (i : Nat) (u : Value) : a.grownBy (w.setCell ⟨g, i, none⟩ u) (some g) :=
  ⟨h.os, h.tape, h.output, by have := h.size; simpa [World.setCell] using this, fun k hk hne => by
    rw [Below.heap_setCell _ _ _ _ (by intro e; exact hne (by rw [e]))]
    exact h.block k hk hne⟩
set_option maxHeartbeats 1000000 in
theorem spoilT (l : List (Nat × Nat)) (v : Value) (b : Nat) (w : World) (h : RowT w b v l) :
    Calls Try.prog 20 #[v] w fun e w' => e = .returned (.tuple #[]) ∧ w.grownBy w' v.ownBlock := by
  rcases h.2 with ⟨rfl, _⟩ | ⟨g, cap, cur, rfl, hgb, hg, hn, hm, hs, _⟩
  · clear h
    go_enter Try.func20, Try.ntmps20
    go_wp2
    go_loop [2] (fun i => i = .int .i64 0) (fun _ => 0)
    case atStart => rfl
    case round =>
      obtain rfl := hrel
      go_wp2
      go_end0
      exact ⟨rfl, ⟨rfl, rfl, rfl, Nat.le_refl _, fun _ _ _ => rfl⟩⟩
  · have HBk : Hid (BlkT w g cap) := ⟨cur, hg, hs⟩
    unfold maxLen at hm
    generalize l.length = n at hn
    clear h hg hs hgb
    go_enter Try.func20, Try.ntmps20
    go_wp2_with (fail)
    go_loopw [2] (fun iv wr => ∃ k : Nat, k ≤ cap ∧ iv = .int .i64 k ∧ Hid (BlkT wr g cap) ∧ Hid (w.grownBy wr (some g))) (fun iv _ => cap - (intOf iv).toNat)
    case atStart => exact ⟨0, Nat.zero_le _, rfl, HBk.out, ⟨rfl, rfl, rfl, Nat.le_refl _, fun _ _ _ => rfl⟩⟩
    case round =>
      obtain ⟨k, hk, rfl, hB, hG⟩ := hrel
      by_cases hlt : k < cap
      · have hlt' : (k : Int) < (cap : Int) := by omega
        have hk0 : (0 : Int) ≤ (k : Int) := by omega
        go_wp2_with (fail)
        refine (stemT 5 (-4) _).mono ?_
        rintro e w3 ⟨rfl, hb3⟩
        have HB3 : Hid (BlkT w3 g cap) := hB.out.on hb3
        have HG3 : Hid (w.grownBy w3 (some g)) := grown_belowT hG.out hb3
        obtain ⟨⟨u0, y0⟩, f0⟩ := HB3.out.cell (i := k * 2) (by omega)
        obtain ⟨⟨u1, y1⟩, f1⟩ := HB3.out.cell (i := k * 2 + 1) (by omega)
        clear hb3 hB hG
        go_wp2
        go_roundw
        case rel => exact ⟨k + 1, by omega, by go_num, (HB3.out.set _ _).set _ _, grown_setT (grown_setT HG3.out _ _) _ _⟩
        case measure => simp [intOf]; omega
      · have hlt' : ¬ (k : Int) < (cap : Int) := by omega
        go_wp2
        go_end0
        exact ⟨rfl, hG.out⟩
theorem flatI_set : ∀ (l : List (Nat × Int)) (k x : Nat) (y : Int), k < l.length → ((flatI l).set (k * 2) (.int .u16 (x : Int))).set (k * 2 + 1) (.int .i64 y) = flatI (l.set k (x, y))
  | p :: l, 0, x, y, _ => rfl
  | p :: l, k + 1, x, y, h => by
    have := flatI_set l k x y (by simpa using h)
    rw [show (k + 1) * 2 = k * 2 + 2 by omega]
    simp only [flatI, List.set_cons_succ]
    rw [this]
/-- A stem of a row is written over. -/
theorem RowI.setAt {w : World} {b g cap n : Nat} {l : List (Nat × Int)} (h : RowI w b (.slice (some ⟨g, 0, none⟩) n cap) l) {k : Nat} (hk : k < l.length) (x : Nat) (y : Int) :
    RowI ((w.setCell ⟨g, k * 2, none⟩ (.int .u16 (x : Int))).setCell ⟨g, k * 2 + 1, none⟩ (.int .i64 y)) b (.slice (some ⟨g, 0, none⟩) n cap) (l.set k (x, y)) := by
  have h' : w.ownsRow b 24 2 (.slice (some ⟨g, 0, none⟩) n cap) l.length (flatI l) := h
  have hn : n = l.length := by
    rcases h'.2 with ⟨hv, _⟩ | ⟨_, _, _, hv, _⟩
    · cases hv
    · cases hv; rfl
  rw [hn] at h' ⊢
  have s1 := h'.stored (k * 2) (.int .u16 (x : Int))
  have s2 := s1.1.stored (k * 2 + 1) (.int .i64 y)
  have := s2.1
  rw [flatI_set l k x y hk] at this
  unfold RowI
  rw [List.length_set]
  exact this
theorem RowI.cells {w : World} {b g cap n : Nat} {l : List (Nat × Int)} (h : RowI w b (.slice (some ⟨g, 0, none⟩) n cap) l) {k : Nat} (hk : k < l.length) :
    w.cell? ⟨g, k * 2, none⟩ = some (.int .u16 ((l[k]).1 : Int)) ∧ w.cell? ⟨g, k * 2 + 1, none⟩ = some (.int .i64 (l[k]).2) := by
  obtain ⟨ad, cap', e, _, h3⟩ := h.form
  obtain ⟨g', e2, _, _, h4⟩ := h3 (by omega)
  cases e
  cases e2
  exact h4 k hk
theorem made_twoT {w w1 : World} {l : List (Nat × Int)} (hl : l.length ≤ 4294967296)
    (hg : w1.heap[w.heap.size]? = some (.cells (flatI l ++ (madeCells #[Value.int .u16 0, Value.int .i64 0] ((l.length + 2) * 2)).toList.drop (l.length * 2)).toArray 24 (0, 0))) :
    RowI w1 w.heap.size (.slice (some ⟨w.heap.size, 0, none⟩) (l.length + 2) (l.length + 2)) (l ++ [(0, 0), (0, 0)]) := by
  have e : (madeCells #[Value.int .u16 0, Value.int .i64 0] ((l.length + 2) * 2)).toList.drop (l.length * 2) = flatI [(0, 0), (0, 0)] := by
    apply List.ext_getElem?
    intro j
    rw [List.getElem?_drop]
    by_cases hj : j < 4
    · have h1 : l.length * 2 + j < (l.length + 2) * 2 := by omega
      have h2 : (l.length * 2 + j) % 2 = j % 2 := by omega
      rw [Array.getElem?_toList]
      simp only [madeCells, Array.getElem?_map, Array.getElem?_range, if_pos h1, Option.map_some, List.size_toArray, List.length_cons, List.length_nil]
      rw [show (l.length * 2 + j) % (0 + 1 + 1) = j % 2 from h2]
      match j, hj with
      | 0, _ => rfl
      | 1, _ => rfl
      | 2, _ => rfl
      | 3, _ => rfl
    · rw [List.getElem?_eq_none (by rw [Array.length_toList, size_madeCells]; omega), List.getElem?_eq_none (by simp [flatI]; omega)]
  rw [e, ← flatI_append] at hg
  have hlen : (l ++ [(0, 0), (0, 0)]).length = l.length + 2 := by simp
  refine ⟨flatI_length _, .inr ⟨w.heap.size, l.length + 2, _, by rw [hlen], Nat.le_refl _, hg, by rw [hlen]; exact Nat.le_refl _, by unfold maxLen; omega, by simp [flatI_length], by rw [← flatI_length]; simp⟩⟩
set_option maxHeartbeats 1000000 in
theorem lentT (l : List (Nat × Int)) (v : Value) (w : World) (h : SrcT w v l) (hl : l.length ≤ 1048576) :
    Calls Try.prog 22 #[v] w fun e w' => ∃ g, e = .returned (.slice (some ⟨g, 0, none⟩) l.length (l.length + 2)) ∧ w.heap.size ≤ g ∧ g < w'.heap.size ∧
      RowI w' w.heap.size (.slice (some ⟨g, 0, none⟩) (l.length + 2) (l.length + 2)) (l ++ [(7, 77), (8, 77)]) ∧ Below w.heap.size w w' := by
  obtain ⟨i0, hi, hz0, hz1, hz2⟩ := info_parts info_st
  have hmk := fun W => run_make (P := Try.prog) W 33 24 i0 (.agg #[.int .u16 0, .int .i64 0]) Try.underlying33 hi hz0 .i64 .i64 ((l.length : Int) + 2) ((l.length : Int) + 2) (by omega) (Int.le_refl _) (by rw [hz2]; omega) (by omega)
  have e2 : ((l.length : Int) + 2).toNat = l.length + 2 := by omega
  simp only [hz1, e2] at hmk
  have h' := h
  obtain ⟨ad, cap, rfl, _⟩ := h'
  have hs1 := h.keep ((Below.refl _ _).alloc (Nat.le_refl _) (.cells (madeCells #[Value.int .u16 0, Value.int .i64 0] ((l.length + 2) * 2)) 24))
  obtain ⟨w1, hr, hg1, hgr1⟩ := run_copy_srcT _ 3 w.heap.size (l.length + 2) (l.length + 2) _ (heap_alloc_new w _) _ l hs1 (by omega) (by rw [size_madeCells]; omega)
  have HG : Hid (RowI w1 w.heap.size (.slice (some ⟨w.heap.size, 0, none⟩) (l.length + 2) (l.length + 2)) (l ++ [(0, 0), (0, 0)])) := made_twoT (by omega) hg1
  have HB1 : Hid (Below w.heap.size w w1) := ((Below.refl _ _).alloc (Nat.le_refl _) _).grown hgr1 (by simp) (fun k hk => by simp at hk; omega)
  have hz1' := hgr1.size
  simp at hz1'
  clear hg1 hs1 h hi hz0 hz1 hz2 hgr1 e2
  generalize hgg : w.heap.size = g at *
  go_enter Try.func22, Try.ntmps22
  go_wp2_with (fail)
  refine (stemT 7 77 _).mono ?_
  rintro e w2 ⟨rfl, hb2⟩
  have R2 : Hid (RowI w2 g (.slice (some ⟨g, 0, none⟩) (l.length + 2) (l.length + 2)) (l ++ [(0, 0), (0, 0)])) := HG.out.on hb2
  have B2 : Hid (Below g w w2) := HB1.out.trans (hb2.mono (by omega))
  have hz2 := hb2.size
  obtain ⟨y0, y1⟩ := R2.out.cells (k := l.length) (by simp)
  have f0 := R2.out.frozen (l.length * 2)
  have f1 := R2.out.frozen (l.length * 2 + 1)
  clear hb2 HG HB1
  have hn0 : (0 : Int) ≤ (l.length : Int) := by omega
  go_wp2_with (fail)
  refine (stemT 8 77 _).mono ?_
  rintro e w3 ⟨rfl, hb3⟩
  have R3 : Hid (RowI w3 g (.slice (some ⟨g, 0, none⟩) (l.length + 2) (l.length + 2)) ((l ++ [(0, 0), (0, 0)]).set l.length (7, 77))) := (R2.out.setAt (by simp) 7 77).on hb3
  have B3 : Hid (Below g w w3) := ((B2.out.setCell (by show g ≤ g; omega) _).setCell (by show g ≤ g; omega) _).trans (hb3.mono (by simp [World.setCell]; omega))
  have hz3 := hb3.size
  simp [World.setCell] at hz3
  obtain ⟨z0, z1⟩ := R3.out.cells (k := l.length + 1) (by simp)
  have q0 := R3.out.frozen ((l.length + 1) * 2)
  have q1 := R3.out.frozen ((l.length + 1) * 2 + 1)
  clear hb3 y0 y1 f0 f1
  go_wp2
  go_ret
  refine ⟨g, rfl, Nat.le_refl _, by simp [World.setCell]; omega, ?_, (B3.out.setCell (by show g ≤ g; omega) _).setCell (by show g ≤ g; omega) _⟩
  have := R3.out.setAt (k := l.length + 1) (by simp) 8 77
  have e : ((l ++ [(0, 0), (0, 0)]).set l.length (7, 77)).set (l.length + 1) (8, 77) = l ++ [(7, 77), (8, 77)] := by
    rw [List.set_append_right _ _ (Nat.le_refl _), Nat.sub_self, List.set_append_right _ _ (by omega), Nat.add_sub_cancel_left]
    rfl
  rw [e] at this
  exact this
theorem stem77 (w : World) : Calls Try.prog 34 #[.int .u16 7, .int .i64 77] w fun e w' => e = .returned (.agg #[.int .u16 7, .int .i64 77]) ∧ Below w.heap.size w w' := stemT 7 77 w
theorem stem87 (w : World) : Calls Try.prog 34 #[.int .u16 8, .int .i64 77] w fun e w' => e = .returned (.agg #[.int .u16 8, .int .i64 77]) ∧ Below w.heap.size w w' := stemT 8 77 w
theorem RowI.blk {w : World} {b g cap n : Nat} {l : List (Nat × Int)} (h : RowI w b (.slice (some ⟨g, 0, none⟩) n cap) l) : BlkT w g cap := by
  rcases h.2 with ⟨hv, _⟩ | ⟨g', cap', cur, hv, _, hg, _, _, hs, _⟩
  · cases hv
  · cases hv; exact ⟨cur, hg, hs⟩
/-- The head of a row, read as a list. -/
theorem RowI.head {w : World} {b g cap n m : Nat} {l k : List (Nat × Int)} (h : RowI w b (.slice (some ⟨g, 0, none⟩) n cap) (l ++ k)) (hm : m = l.length) (c : Nat) : SrcT w (.slice (some ⟨g, 0, none⟩) m c) l := by
  subst hm
  refine ⟨_, c, rfl, fun _ => ⟨g, 0, rfl, fun j u hu => ?_⟩⟩
  obtain ⟨ad, cap', e, h2⟩ := h.src
  have hj : j < (flatI l).length := (List.getElem?_eq_some_iff.1 hu).1
  rw [flatI_length] at hj
  obtain ⟨g', off, e2, h3⟩ := h2 (by simp; omega)
  have hh := World.ownsRow.cells (show w.ownsRow b 24 2 _ (l ++ k).length (flatI (l ++ k)) from h) (g := g) rfl j u (by rw [flatI_append, List.getElem?_append_left (by rw [flatI_length]; exact hj)]; exact hu)
  rwa [Addr.add_lit] at hh
set_option maxHeartbeats 1000000 in
theorem backT (l : List (Nat × Int)) (v : Value) (g b : Nat) (w : World) (hr : RowI w b (.slice (some ⟨g, 0, none⟩) (l.length + 2) (l.length + 2)) (l ++ [(7, 77), (8, 77)])) (h : SrcT w v l) (hl : l.length ≤ 1048576) :
    Calls Try.prog 24 #[.slice (some ⟨g, 0, none⟩) l.length (l.length + 2), v] w fun e w' => e = .returned (.bool true) ∧ w.grownBy w' (some g) := by
  have HB : Hid (BlkT w g (l.length + 2)) := hr.blk
  have HH : Hid (SrcT w (.slice (some ⟨g, 0, none⟩) l.length (l.length + 2)) l) := hr.head rfl _
  have HS : Hid (SrcT w v l) := h
  obtain ⟨a0, a1⟩ := hr.cells (k := l.length) (by simp)
  obtain ⟨b0, b1⟩ := hr.cells (k := l.length + 1) (by simp)
  simp only [List.getElem_append_right (Nat.le_refl l.length), Nat.sub_self, List.getElem_append_right (show l.length ≤ l.length + 1 by omega), Nat.add_sub_cancel_left] at a0 a1 b0 b1
  change w.cell? ⟨g, l.length * 2, none⟩ = some (.int .u16 7) at a0
  change w.cell? ⟨g, l.length * 2 + 1, none⟩ = some (.int .i64 77) at a1
  change w.cell? ⟨g, (l.length + 1) * 2, none⟩ = some (.int .u16 8) at b0
  change w.cell? ⟨g, (l.length + 1) * 2 + 1, none⟩ = some (.int .i64 77) at b1
  have hn0 : (0 : Int) ≤ (l.length : Int) := by omega
  have hgw : g < w.heap.size := HB.out.lt
  obtain ⟨ad, cap, rfl, _⟩ := h
  clear hr
  go_enter Try.func24, Try.ntmps24
  go_wp2_with (fail)
  have kne : Nonempty (Kin (w)) := ⟨⟨_, Below.refl _ _⟩⟩
  have kc0 : ∀ y : Kin (w), y.val.cell? ⟨g, l.length * 2, none⟩ = some (.int .u16 7) := fun y => by rw [kin_cell (by first | omega | (simp <;> omega))]; first | assumption | (simp [go_sem]; done) | simp [go_sem, *]
  have kc1 : ∀ y : Kin (w), y.val.cell? ⟨g, l.length * 2 + 1, none⟩ = some (.int .i64 77) := fun y => by rw [kin_cell (by first | omega | (simp <;> omega))]; first | assumption | (simp [go_sem]; done) | simp [go_sem, *]
  have kc2 : ∀ y : Kin (w), y.val.cell? ⟨g, (l.length + 1) * 2, none⟩ = some (.int .u16 8) := fun y => by rw [kin_cell (by first | omega | (simp <;> omega))]; first | assumption | (simp [go_sem]; done) | simp [go_sem, *]
  have kc3 : ∀ y : Kin (w), y.val.cell? ⟨g, (l.length + 1) * 2 + 1, none⟩ = some (.int .i64 77) := fun y => by rw [kin_cell (by first | omega | (simp <;> omega))]; first | assumption | (simp [go_sem]; done) | simp [go_sem, *]
  refine wp_region_kin (w) (Below.refl _ _) (by kernel_rfl) (by kernel_rfl) ?_
  repeat (go_big_quiet_step (first | (go_at_call 34; first | exact kin_call (stem77 _) | exact kin_call (stem87 _)) | (go_at_call 19; exact kin_call (sameT l (by omega) _ _ _ (SrcT.keep HH.out (Kin.is _)) (SrcT.keep HS.out (Kin.is _))))))
  refine wpQuiet_nil ?_
  rintro wq ⟨⟨xq, hxq⟩, hyq⟩
  have hq : Below (w).heap.size (w) wq := by rw [hyq]; exact hxq
  clear hyq hxq xq
  clear kne kc0 kc1 kc2 kc3
  obtain ⟨hcq, hfq⟩ := bcell hq
  have hzq := hq.size
  try simp at hzq
  have HBq : Hid (BlkT wq g (l.length + 2)) := HB.out.on hq
  have HGq : Hid (w.grownBy wq (some g)) := grown_belowT ⟨rfl, rfl, rfl, Nat.le_refl _, fun _ _ _ => rfl⟩ hq
  clear hcq hfq hq a0 a1 b0 b1 HB HH HS
  generalize hN : l.length + 2 = N at *
  have hNb : N ≤ 1048578 := by omega
  clear hN
  go_wp2_with (fail)
  go_loopw [7] (fun iv wr => ∃ k : Nat, k ≤ N ∧ iv = .int .i64 k ∧ Hid (BlkT wr g N) ∧ Hid (w.grownBy wr (some g))) (fun iv _ => N - (intOf iv).toNat)
  case atStart => exact ⟨0, Nat.zero_le _, rfl, HBq.out, HGq.out⟩
  case round =>
    obtain ⟨k, hk, rfl, hB, hG⟩ := hrel
    by_cases hlt : k < N
    · have hlt' : (k : Int) < (N : Int) := by omega
      have hk0 : (0 : Int) ≤ (k : Int) := by omega
      go_wp2_with (fail)
      refine (stemT 99 98 _).mono ?_
      rintro e w3 ⟨rfl, hb3⟩
      have HB3 : Hid (BlkT w3 g N) := hB.out.on hb3
      have HG3 : Hid (w.grownBy w3 (some g)) := grown_belowT hG.out hb3
      obtain ⟨⟨u0, y0⟩, f0⟩ := HB3.out.cell (i := k * 2) (by omega)
      obtain ⟨⟨u1, y1⟩, f1⟩ := HB3.out.cell (i := k * 2 + 1) (by omega)
      clear hb3 hB hG
      go_wp2
      go_roundw
      case rel => exact ⟨k + 1, by omega, by go_num, (HB3.out.set _ _).set _ _, grown_setT (grown_setT HG3.out _ _) _ _⟩
      case measure => simp [intOf]; omega
    · have hlt' : ¬ (k : Int) < (N : Int) := by omega
      go_wp2
      go_ret
      exact ⟨rfl, hG.out⟩
end Go.Proofs.Ytapaoemcjpfpoaa
