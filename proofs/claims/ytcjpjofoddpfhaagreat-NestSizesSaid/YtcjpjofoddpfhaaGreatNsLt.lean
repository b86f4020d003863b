/-
  The statements' own helpers: lent (a list of spans in memory of its own, a mark behind it), kept (is it as it was?).
-/
import Derived.Laws.CopyOwn
import Derived.Test.YtcjpjofoddpfhaaGreatNsRz
namespace Go.Proofs.YtcjpjofoddpfhaaGreat
open Go.RowKit
set_option linter.unusedVariables false
set_option linter.unusedSimpArgs false

theorem run_copyS (w : World) (ty : TypeId) (g dLen dCap : Nat) (cur : Array Value) (hg : w.heap[g]? = some (.cells cur 47 (0, 0))) (v : Value) (l : List (Nat × Nat)) (hs : SrcS w v l)
    (hn : l.length ≤ dLen) (hfit : l.length * 2 ≤ cur.size) :
    ∃ w', (Builtin.copy_ #[22, 22] ty #[.slice (some ⟨g, 0, none⟩) dLen dCap, v]).run Tryz.prog w = .ok (goInt l.length) w' ∧
      w'.heap[g]? = some (.cells (flatS l ++ cur.toList.drop (l.length * 2)).toArray 47 (0, 0)) ∧ w.grownBy w' (some g) := by
  obtain ⟨i0, hi, hz0, hz1, hz2⟩ := info_parts infoS
  have hs' := hs
  obtain ⟨ad, cap, rfl, _, h2⟩ := hs
  have hmin : Nat.min l.length dLen = l.length := Nat.min_eq_left hn
  by_cases h0 : 0 < l.length
  · obtain ⟨g2, off, rfl, h3⟩ := h2 h0
    have hl := run_loadCells_list (P := Tryz.prog) w ⟨g2, off, none⟩ (flatS l) hs'.flat
    rw [flatS_length] at hl
    have hst := run_storeCells_at Tryz.prog g 0 47 (flatS l) 0 cur w hg (by rw [flatS_length]; omega) (flatS_one l)
    refine ⟨_, ?_, setRow_heap w g cur _ _ _ hg, ⟨rfl, rfl, rfl, by simp, fun k _ hk => setRow_other w g k _ (fun e => hk (by simp [e]))⟩⟩
    simp only [Nat.zero_add, List.take_zero, List.nil_append, flatS_length, Nat.add_zero] at hst
    simp [Builtin.copy_, Tryz.runUnderlying22, Builtin.lenOf, Builtin.firstCells, sizeOf, typeInfo, hi, hz1, hmin, hl, hst]
  · have e : l = [] := List.eq_nil_of_length_eq_zero (by omega)
    subst e
    refine ⟨w, ?_, by simpa [flatS] using hg, ⟨rfl, rfl, rfl, Nat.le_refl _, fun _ _ _ => rfl⟩⟩
    have hl : ∀ (x : Addr), (loadCells x 0).run Tryz.prog w = .ok #[] w := fun x => by simpa using run_loadCells_list (P := Tryz.prog) w x [] (by simp)
    cases ad <;> simp [Builtin.copy_, Tryz.runUnderlying22, Builtin.lenOf, Builtin.firstCells, sizeOf, typeInfo, hi, hz1, storeCells, hl]
theorem made_oneS {w w1 : World} {l : List (Nat × Nat)} (hl : l.length ≤ 4294967296)
    (hg : w1.heap[w.heap.size]? = some (.cells (flatS l ++ (madeCells #[Value.int .u16 0, Value.int .u16 0] ((l.length + 1) * 2)).toList.drop (l.length * 2)).toArray 47 (0, 0))) :
    RowS w1 w.heap.size (.slice (some ⟨w.heap.size, 0, none⟩) (l.length + 1) (l.length + 1)) (l ++ [(0, 0)]) := by
  have e : (madeCells #[Value.int .u16 0, Value.int .u16 0] ((l.length + 1) * 2)).toList.drop (l.length * 2) = flatS [(0, 0)] := by
    apply List.ext_getElem?
    intro j
    rw [List.getElem?_drop]
    by_cases hj : j < 2
    · have h1 : l.length * 2 + j < (l.length + 1) * 2 := by omega
      have h2 : (l.length * 2 + j) % 2 = j % 2 := by omega
      rw [Array.getElem?_toList]
      simp only [madeCells, Array.getElem?_map, Array.getElem?_range, if_pos h1, Option.map_some, List.size_toArray, List.length_cons, List.length_nil]
      rw [show (l.length * 2 + j) % (0 + 1 + 1) = j % 2 from h2]
      match j, hj with
      | 0, _ => rfl
      | 1, _ => rfl
    · rw [List.getElem?_eq_none (by rw [Array.length_toList, size_madeCells]; omega), List.getElem?_eq_none (by rw [flatS_length]; simp; omega)]
  rw [e, ← flatS_append] at hg
  have hlen : (l ++ [(0, 0)]).length = l.length + 1 := by simp
  refine ⟨flatS_length _, .inr ⟨w.heap.size, l.length + 1, _, by rw [hlen], Nat.le_refl _, hg, by rw [hlen]; exact Nat.le_refl _, by unfold maxLen; omega, by simp [flatS_length], by rw [← flatS_length]; simp⟩⟩
/-- The head of a row, read as a list. -/
theorem RowS.head {w : World} {b g cap n m : Nat} {l k : List (Nat × Nat)} (h : RowS w b (.slice (.some ⟨g, 0, none⟩) n cap) (l ++ k)) (hm : m = l.length) (c : Nat) (hc : m ≤ c) : SrcS w (.slice (.some ⟨g, 0, none⟩) m c) l := by
  subst hm
  refine ⟨_, c, rfl, ⟨hc, fun e => by cases e⟩, fun h0 => ⟨g, 0, rfl, fun j hj i hi => ?_⟩⟩
  obtain ⟨ad, cap', e, _, h2⟩ := h.form
  obtain ⟨g', e2, _, _, h3⟩ := h2 (by simp; omega)
  cases e
  cases e2
  have := h3 j (by simp; omega) i hi
  rw [List.getElem_append_left hj] at this
  rw [Nat.zero_add]
  exact this
set_option maxHeartbeats 1000000 in
theorem lentC (l : List (Nat × Nat)) (v : Value) (w : World) (h : SrcS w v l) (hl : l.length ≤ 16777216) :
    Calls Tryz.prog 7 #[v] w fun e w' => ∃ g, e = .returned (.slice (some ⟨g, 0, none⟩) l.length (l.length + 1)) ∧ w.heap.size ≤ g ∧
      RowS w' w.heap.size (.slice (some ⟨g, 0, none⟩) (l.length + 1) (l.length + 1)) (l ++ [(7, 3)]) ∧ Below w.heap.size w w' := by
  obtain ⟨i0, hi, hz0, hz1, hz2⟩ := info_parts infoS
  have hmk := fun W => run_make (P := Tryz.prog) W 22 47 i0 (.agg #[.int .u16 0, .int .u16 0]) Tryz.underlying22 hi hz0 .i64 .i64 ((l.length : Int) + 1) ((l.length : Int) + 1) (by omega) (Int.le_refl _) (by rw [hz2]; omega) (by omega)
  have e2 : ((l.length : Int) + 1).toNat = l.length + 1 := by omega
  simp only [hz1, e2] at hmk
  have h' := h
  obtain ⟨ad, cap, rfl, _, _⟩ := h'
  have hs1 := h.keep ((Below.refl _ _).alloc (Nat.le_refl _) (.cells (madeCells #[Value.int .u16 0, Value.int .u16 0] ((l.length + 1) * 2)) 47))
  obtain ⟨w1, hr, hg1, hgr1⟩ := run_copyS _ 3 w.heap.size (l.length + 1) (l.length + 1) _ (heap_alloc_new w _) _ l hs1 (by omega) (by rw [size_madeCells]; omega)
  have HG : Hid (RowS w1 w.heap.size (.slice (some ⟨w.heap.size, 0, none⟩) (l.length + 1) (l.length + 1)) (l ++ [(0, 0)])) := made_oneS (by omega) hg1
  have HB1 : Hid (Below w.heap.size w w1) := ((Below.refl _ _).alloc (Nat.le_refl _) _).grown hgr1 (by simp) (fun k hk => by simp at hk; omega)
  clear hg1 hs1 h hi hz0 hz1 hz2 hgr1 e2
  have Hset : Hid ((l ++ [(0, 0)]).take l.length ++ [((7, 3) : Nat × Nat)] ++ (l ++ [(0, 0)]).drop (l.length + [((7, 3) : Nat × Nat)].length) = l ++ [(7, 3)]) := by show _ = _; simp
  obtain ⟨n, hn⟩ : ∃ n, n = l.length := ⟨_, rfl⟩
  have hnl : Hid (n = l.length) := hn
  have hn0 : (0 : Int) ≤ (n : Int) := by omega
  have hn1 : (n : Int) < (n : Int) + 1 := by omega
  have hn2 : n < n + 1 := by omega
  rw [← hn] at HG hl hmk hr Hset ⊢
  clear hn
  generalize hgg : w.heap.size = g at *
  go_enter Tryz.func7, Tryz.ntmps7
  go_wp2_with (refine wpList_storeS rfl (.tmp 15) (.tmp 14) rfl g g (n + 1) (n + 1) _ HG.out n hn2 (7, 3) rfl rfl ?_; intro w2 hr2 hg2)
  have HR2 : Hid (RowS w2 g (.slice (some ⟨g, 0, none⟩) (n + 1) (n + 1)) (l ++ [(7, 3)])) := by rw [Hset.out] at hr2; exact hr2
  have HB2 : Hid (Below g w w2) := HB1.out.grown hg2 (by rw [← hgg]; exact HB1.out.size) (fun q hq => by injection hq with e; omega)
  clear hr2 hg2 HG HB1 hr hmk
  go_wp2
  go_ret
  exact ⟨g, rfl, Nat.le_refl _, HR2.out, HB2.out⟩
set_option maxRecDepth 20000 in
set_option maxHeartbeats 2000000 in
theorem keptC (l : List (Nat × Nat)) (v : Value) (g b : Nat) (w : World) (hr : RowS w b (.slice (some ⟨g, 0, none⟩) (l.length + 1) (l.length + 1)) (l ++ [(7, 3)])) (hs : SrcS w v l) (hl : l.length ≤ 16777216) :
    Calls Tryz.prog 13 #[.slice (some ⟨g, 0, none⟩) l.length (l.length + 1), v] w fun e w' => e = .returned (.bool true) ∧ Below w.heap.size w w' := by
  have HH : Hid (SrcS w (.slice (some ⟨g, 0, none⟩) l.length (l.length + 1)) l) := hr.head rfl _ (by omega)
  have HS : Hid (SrcS w v l) := hs
  obtain ⟨a0, a1⟩ := rowS_src_at hr (k := l.length) (by simp)
  simp only [List.getElem_append_right (Nat.le_refl l.length), Nat.sub_self] at a0 a1
  change w.cell? ⟨g, l.length * 2, none⟩ = some (.int .u16 7) at a0
  change w.cell? ⟨g, l.length * 2 + 1, none⟩ = some (.int .u16 3) at a1
  obtain ⟨ad, cap, rfl, _, _⟩ := hs
  clear hr
  obtain ⟨n, hn⟩ : ∃ n, n = l.length := ⟨_, rfl⟩
  rw [← hn] at HH HS hl a0 a1 ⊢
  have Hn : Hid (n = l.length) := hn
  have hn0 : (0 : Int) ≤ (n : Int) := by omega
  have hn1 : (n : Int) < (n : Int) + 1 := by omega
  clear hn
  have he0 : ∀ W, Sem.run Tryz.prog (binOp .eql 47 (.agg #[.int .u16 7, .int .u16 3]) (.agg #[.int .u16 7, .int .u16 3])) W = .ok (.bool true) W := fun W => eqS_any (7, 3) (7, 3) W
  go_enter Tryz.func13, Tryz.ntmps13
  go_wp2_with (fail)
  clear he0 a0 a1
  go_loopw [6, 7] (fun s6 s7 wr => ∃ k : Nat, k ≤ n ∧ s6 = .bool true ∧ s7 = .int .i64 (k : Int) ∧ Hid (Below w.heap.size w wr)) (fun _ s7 _ => n - (intOf s7).toNat)
  case atStart => exact ⟨0, Nat.zero_le _, rfl, rfl, Below.refl _ _⟩
  case round =>
    obtain ⟨k, hk, rfl, rfl, HB⟩ := hrel
    by_cases hlt : k < n
    · have hlt' : k < l.length := by rw [← Hn.out]; exact hlt
      have hlti : (k : Int) < (n : Int) := by omega
      obtain ⟨g1, off, ea, c0, c1⟩ := (srcS_at HS.out).2 HB.out k hlt'
      subst ea
      obtain ⟨g2, off2, ea2, d0, d1⟩ := (srcS_at HH.out).2 HB.out k hlt'
      injection ea2 with ea2
      injection ea2 with e1 e2
      subst e1 e2
      rw [Nat.zero_add] at d0 d1
      generalize l[k] = s at c0 c1 d0 d1
      have he := fun W => eqS_any s s W
      simp only [decide_true] at he
      go_wp2_with (fail)
      go_quiet (fail)
      go_wp2_with (fail)
      go_roundw
      case rel => exact ⟨k + 1, by omega, rfl, by go_num, bel_drewN HB.out _⟩
      case measure => simp [intOf]; omega
    · obtain rfl : k = n := by omega
      have hnk : ¬ (k : Int) < (k : Int) := by omega
      go_wp2
      go_ret
      exact ⟨rfl, HB.out⟩
end Go.Proofs.YtcjpjofoddpfhaaGreat
