/-
  slices.Clone and slices.Compact of rows of spans and of prefixes. Written by tools/mkNsC.py.
-/
import Derived.Lib.SlicesCompact
import Derived.Lib.SliceRun
import Derived.Test.YtgidohnikggjfaaGreatNsI
namespace Go.Proofs.YtgidohnikggjfaaGreat
open Go.RowKit Go.Lib
set_option linter.unusedVariables false
set_option linter.unusedSimpArgs false

theorem pair_eq (a b : Nat × Nat) : a = b ↔ ((a.1 : Int) = b.1 ∧ (a.2 : Int) = b.2) := by
  obtain ⟨a1, a2⟩ := a
  obtain ⟨b1, b2⟩ := b
  simp only [Prod.mk.injEq]
  omega
theorem comp_all {l : List (Nat × Nat)} (h : ∀ j, j < l.length → keeps l.toArray j = true) : compactUpTo l.toArray l.length = l := by
  rw [compactUpTo_all _ _ h]
  apply List.ext_getElem
  · simp
  · intro i h1 h2
    simp [getElem!_pos, h2]
theorem toL {d : Array (Nat × Nat)} {k : Nat} (h : k < d.toList.length) : d.toList[k] = d[k]! := by
  rw [Array.getElem_toList, getElem!_pos]

theorem eqS_any (a b : Nat × Nat) (w : World) : Sem.run Tryz.prog (binOp .eql 60 (.agg #[.int .u16 (a.1 : Int), .int .u16 (a.2 : Int)]) (.agg #[.int .u16 (b.1 : Int), .int .u16 (b.2 : Int)])) w = .ok (.bool (decide (a = b))) w := by
  rw [show decide (a = b) = decide _ from decide_eq_decide.2 (pair_eq a b)]
  simp [go_sem]
  repeat' (first | rfl | (split <;> rename_i h <;> simp only [h, decide_true, decide_false, Bool.true_and, Bool.false_and]))
theorem neS_any (a b : Nat × Nat) (w : World) : Sem.run Tryz.prog (binOp .neq 60 (.agg #[.int .u16 (a.1 : Int), .int .u16 (a.2 : Int)]) (.agg #[.int .u16 (b.1 : Int), .int .u16 (b.2 : Int)])) w = .ok (.bool (!decide (a = b))) w := by
  rw [show decide (a = b) = decide _ from decide_eq_decide.2 (pair_eq a b)]
  simp [go_sem]
  repeat' (first | rfl | (split <;> rename_i h <;> simp only [h, decide_true, decide_false, Bool.true_and, Bool.false_and, Bool.not_true, Bool.not_false]))
theorem rowLenS {w : World} {b g n cap : Nat} {l : List (Nat × Nat)} (h : RowS w b (.slice (some ⟨g, 0, none⟩) n cap) l) : n = l.length ∧ n ≤ cap := by
  rcases h.2 with ⟨hv, _⟩ | ⟨g', cap', cur, hv, hb, hg, hc, r⟩
  · cases hv
  · cases hv; exact ⟨rfl, hc⟩
theorem rowCellsS {w : World} {b g n cap : Nat} {l : List (Nat × Nat)} (h : RowS w b (.slice (some ⟨g, 0, none⟩) n cap) l) {k : Nat} (hk : k < l.length) :
    (w.cell? ⟨g, k * 2, none⟩ = some (.int .u16 ((l[k]'hk).1 : Int)) ∧ w.cell? ⟨g, k * 2 + 1, none⟩ = some (.int .u16 ((l[k]'hk).2 : Int))) ∧ w.frozen? ⟨g, k * 2, none⟩ = false ∧ w.frozen? ⟨g, k * 2 + 1, none⟩ = false := by
  obtain ⟨ad, c, e, _, h2⟩ := h.form
  cases e
  obtain ⟨g', e', _, _, h3⟩ := h2 (by omega)
  cases e'
  exact ⟨⟨h3 k hk 0 (by omega), h3 k hk 1 (by omega)⟩, h.frozen _, h.frozen _⟩
theorem flatS_tk (l : List (Nat × Nat)) (p : Nat) : (flatS l).take (p * 2) = flatS (l.take p) := by
  by_cases h : p ≤ l.length
  · have e : flatS l = flatS (l.take p) ++ flatS (l.drop p) := by rw [← flatS_append, List.take_append_drop]
    rw [e, List.take_append_of_le_length (by rw [flatS_length, List.length_take]; omega), List.take_of_length_le (by rw [flatS_length, List.length_take]; omega)]
  · rw [List.take_of_length_le (by rw [flatS_length]; omega), List.take_of_length_le (by omega)]
theorem rowHeadS {w w' : World} {b g n cap : Nat} {l : List (Nat × Nat)} (h : RowS w b (.slice (some ⟨g, 0, none⟩) n cap) l) {k : Nat} (hk : k ≤ n)
    (hw : ∀ cur, w.heap[g]? = some (.cells cur 60 (0, 0)) → ∃ cur' : Array Value, w'.heap[g]? = some (.cells cur' 60 (0, 0)) ∧ cur'.size = cur.size ∧ cur'.toList.take (k * 2) = cur.toList.take (k * 2)) : RowS w' b (.slice (some ⟨g, 0, none⟩) k cap) (l.take k) := by
  rcases h.2 with ⟨hv, _⟩ | ⟨g', cap', cur, hv, hb, hg, hc, hm, hs, ht⟩
  · cases hv
  · cases hv
    obtain ⟨cur', h1, h2, h3⟩ := hw cur hg
    have hlen : (l.take k).length = k := by rw [List.length_take]; omega
    refine ⟨by rw [flatS_length], .inr ⟨g, cap, cur', by rw [hlen], hb, h1, by omega, hm, by rw [h2]; exact hs, ?_⟩⟩
    rw [hlen, h3, ← flatS_tk, ← ht, List.take_take]
    congr 1; omega
theorem eqX_any (a b : Nat × Nat) (w : World) : Sem.run Tryz.prog (binOp .eql 58 (.agg #[.int .u32 (a.1 : Int), .int .i64 (a.2 : Int)]) (.agg #[.int .u32 (b.1 : Int), .int .i64 (b.2 : Int)])) w = .ok (.bool (decide (a = b))) w := by
  rw [show decide (a = b) = decide _ from decide_eq_decide.2 (pair_eq a b)]
  simp [go_sem]
  repeat' (first | rfl | (split <;> rename_i h <;> simp only [h, decide_true, decide_false, Bool.true_and, Bool.false_and]))
theorem neX_any (a b : Nat × Nat) (w : World) : Sem.run Tryz.prog (binOp .neq 58 (.agg #[.int .u32 (a.1 : Int), .int .i64 (a.2 : Int)]) (.agg #[.int .u32 (b.1 : Int), .int .i64 (b.2 : Int)])) w = .ok (.bool (!decide (a = b))) w := by
  rw [show decide (a = b) = decide _ from decide_eq_decide.2 (pair_eq a b)]
  simp [go_sem]
  repeat' (first | rfl | (split <;> rename_i h <;> simp only [h, decide_true, decide_false, Bool.true_and, Bool.false_and, Bool.not_true, Bool.not_false]))
theorem rowLenX {w : World} {b g n cap : Nat} {l : List (Nat × Nat)} (h : RowX w b (.slice (some ⟨g, 0, none⟩) n cap) l) : n = l.length ∧ n ≤ cap := by
  rcases h.2 with ⟨hv, _⟩ | ⟨g', cap', cur, hv, hb, hg, hc, r⟩
  · cases hv
  · cases hv; exact ⟨rfl, hc⟩
theorem rowCellsX {w : World} {b g n cap : Nat} {l : List (Nat × Nat)} (h : RowX w b (.slice (some ⟨g, 0, none⟩) n cap) l) {k : Nat} (hk : k < l.length) :
    (w.cell? ⟨g, k * 2, none⟩ = some (.int .u32 ((l[k]'hk).1 : Int)) ∧ w.cell? ⟨g, k * 2 + 1, none⟩ = some (.int .i64 ((l[k]'hk).2 : Int))) ∧ w.frozen? ⟨g, k * 2, none⟩ = false ∧ w.frozen? ⟨g, k * 2 + 1, none⟩ = false := by
  obtain ⟨ad, c, e, _, h2⟩ := h.form
  cases e
  obtain ⟨g', e', _, _, h3⟩ := h2 (by omega)
  cases e'
  exact ⟨⟨h3 k hk 0 (by omega), h3 k hk 1 (by omega)⟩, h.frozen _, h.frozen _⟩
theorem flatX_tk (l : List (Nat × Nat)) (p : Nat) : (flatX l).take (p * 2) = flatX (l.take p) := by
  by_cases h : p ≤ l.length
  · have e : flatX l = flatX (l.take p) ++ flatX (l.drop p) := by rw [← flatX_append, List.take_append_drop]
    rw [e, List.take_append_of_le_length (by rw [flatX_length, List.length_take]; omega), List.take_of_length_le (by rw [flatX_length, List.length_take]; omega)]
  · rw [List.take_of_length_le (by rw [flatX_length]; omega), List.take_of_length_le (by omega)]
theorem rowHeadX {w w' : World} {b g n cap : Nat} {l : List (Nat × Nat)} (h : RowX w b (.slice (some ⟨g, 0, none⟩) n cap) l) {k : Nat} (hk : k ≤ n)
    (hw : ∀ cur, w.heap[g]? = some (.cells cur 58 (0, 0)) → ∃ cur' : Array Value, w'.heap[g]? = some (.cells cur' 58 (0, 0)) ∧ cur'.size = cur.size ∧ cur'.toList.take (k * 2) = cur.toList.take (k * 2)) : RowX w' b (.slice (some ⟨g, 0, none⟩) k cap) (l.take k) := by
  rcases h.2 with ⟨hv, _⟩ | ⟨g', cap', cur, hv, hb, hg, hc, hm, hs, ht⟩
  · cases hv
  · cases hv
    obtain ⟨cur', h1, h2, h3⟩ := hw cur hg
    have hlen : (l.take k).length = k := by rw [List.length_take]; omega
    refine ⟨by rw [flatX_length], .inr ⟨g, cap, cur', by rw [hlen], hb, h1, by omega, hm, by rw [h2]; exact hs, ?_⟩⟩
    rw [hlen, h3, ← flatX_tk, ← ht, List.take_take]
    congr 1; omega
/-- Zeroes from a place on. -/
theorem run_clearX (w : World) (ty : TypeId) (b g n cap k : Nat) (l : List (Nat × Nat)) (h : RowX w b (.slice (some ⟨g, 0, none⟩) n cap) l) (hk : k < n) :
    ∃ w', (Builtin.clear_ #[139] ty #[.slice (some ⟨g, k * 2, none⟩) (n - k) (cap - k)]).run Tryz.prog w = .ok (.tuple #[]) w' ∧ RowX w' b (.slice (some ⟨g, 0, none⟩) k cap) (l.take k) ∧ w.grownBy w' (some g) := by
  rcases h.2 with ⟨hv, _⟩ | ⟨g', cap', cur, hv, hb, hg, hc, hm, hs, ht⟩
  · cases hv
  · have hv' := hv
    injection hv' with e1 e2 e3
    injection e1 with e1
    injection e1 with e1
    subst e1 e2 e3
    obtain ⟨i0, hi, hz0, hz1, hz2⟩ := info_parts infoX
    have hzv : ∀ w, (zeroValue 58).run Tryz.prog w = .ok (.agg #[.int .u32 0, .int .i64 0]) w := fun w => by simp [zeroValue, typeInfo, hi, hz0]
    have hsz : (Builtin.zeroCells #[.int .u32 0, .int .i64 0] (l.length - k)).toList.length = (l.length - k) * 2 := by simp [Builtin.zeroCells]
    have hone : ∀ v ∈ (Builtin.zeroCells #[.int .u32 0, .int .i64 0] (l.length - k)).toList, v.oneCell' = true := by
      intro v hv
      simp only [Builtin.zeroCells, Array.toList_map, List.mem_map] at hv
      obtain ⟨i, _, rfl⟩ := hv
      have : i % 2 = 0 ∨ i % 2 = 1 := by omega
      rcases this with e | e <;> simp [e, Value.oneCell']
    have hst := run_storeCells_at Tryz.prog g (k * 2) 58 (Builtin.zeroCells #[.int .u32 0, .int .i64 0] (l.length - k)).toList 0 cur w hg (by rw [hsz]; omega) hone
    refine ⟨w.setRow g (cur.toList.take (k * 2 + 0) ++ (Builtin.zeroCells #[.int .u32 0, .int .i64 0] (l.length - k)).toList ++ cur.toList.drop (k * 2 + 0 + (Builtin.zeroCells #[.int .u32 0, .int .i64 0] (l.length - k)).toList.length)).toArray, ?_, rowHeadX h (Nat.le_of_lt hk) (fun cur' hc' => ⟨_, setRow_heap w g cur (cur.toList.take (k * 2 + 0) ++ (Builtin.zeroCells #[.int .u32 0, .int .i64 0] (l.length - k)).toList ++ cur.toList.drop (k * 2 + 0 + (Builtin.zeroCells #[.int .u32 0, .int .i64 0] (l.length - k)).toList.length)).toArray _ _ hg, ?_, ?_⟩), ⟨rfl, rfl, rfl, by simp, fun x _ hx => setRow_other w g x _ (fun e => hx (by simp [e]))⟩⟩
    · obtain ⟨m, hm'⟩ : ∃ m, l.length - k = m + 1 := ⟨l.length - k - 1, by omega⟩
      rw [hm'] at hst ⊢
      simp only [Builtin.clear_, Tryz.runUnderlying139, hzv, go_sem, Value.cells]
      simp [Value.cells, hst, Result.andThen]
    · rw [hg] at hc'; cases hc'
      simp only [List.size_toArray, List.length_append, hsz, List.length_take, List.length_drop, Array.length_toList]
      omega
    · rw [hg] at hc'; cases hc'
      rw [List.append_assoc, List.take_append_of_le_length (by simp; omega), Nat.add_zero, List.take_take, Nat.min_self]

set_option maxHeartbeats 1000000 in
theorem cloneX (l : List (Nat × Nat)) (v : Value) (w : World) (h : SrcX w v l) (hl : l.length ≤ 4294967296) :
    Calls Tryz.prog 98 #[v] w fun e w' => ∃ v' : Value, e = .returned v' ∧ RowX w' w.heap.size v' l ∧ Below w.heap.size w w' := by
  have HS : Hid (SrcX w v l) := h
  obtain ⟨ad, cap, rfl, hc, _⟩ := h
  have q22 : ∀ (w : World) (a : Option Addr) (n c n' c' : Nat), (binOp .eql 139 (.slice a n c) (.slice none n' c')).run Tryz.prog w = .ok (.bool a.isNone) w := fun w a n c n' c' => Lib.run_eql_slice_nil w _ _ a n c n' c' Tryz.underlying139
  cases ad with
  | none =>
    have h0 : l.length = 0 := by have := hc.1; have := hc.2 rfl; omega
    have hn : l = [] := List.eq_nil_of_length_eq_zero h0
    subst hn
    clear HS
    go_enter Tryz.func98, Tryz.ntmps98
    go_wp2
    go_ret
    exact ⟨_, rfl, World.ownsRow_nil _ _ _ _, Below.refl _ _⟩
  | some a =>
    obtain ⟨n, hn⟩ : ∃ n, n = l.length := ⟨_, rfl⟩
    rw [← hn] at HS ⊢
    have Hn : Hid (n = l.length) := hn
    clear hn hc
    go_enter Tryz.func98, Tryz.ntmps98
    go_wp2_with (at_builtin; refine wpList_appendSX rfl _ _ rfl w.heap.size _ [] rfl (World.ownsRow_made w #[] 0 (Nat.le_refl _) (Nat.zero_le _) (by simp)) _ l rfl (HS.out.keep ((Below.refl _ _).alloc (Nat.le_refl _) _)) (by simp) (by simp; omega) ?_; intro v' w1 hrow hgr hat)
    go_ret
    exact ⟨v', rfl, by simpa using hrow, ((Below.refl _ w).alloc (Nat.le_refl _) _).grown hgr (by simp) (fun k hk => by have : some w.heap.size = some k := hk; injection this with e; omega)⟩
end Go.Proofs.YtgidohnikggjfaaGreat
