/-
  slices.SortFunc by Compare on a row of spans; span.sorted: a sorted copy.
-/
import Derived.Test.YtapaoemcjpfpoaaSpSort
namespace Go.Proofs.Ytapaoemcjpfpoaa
open Go.RowKit Go.Shelf Go.Sort
set_option linter.unusedVariables false
set_option linter.unusedSimpArgs false

theorem cmpLays (blk off size : Nat) (w : World) : CmpLays Try.prog 50 #[] encS 2 cmpI blk off size w :=
  fun m os dk hs x y => (cmpS x y _).mono fun _ _ ⟨he, os', hw⟩ => ⟨he, 0, os', hw⟩
/-- Rising by the lower ends. -/
def Rise (l : List (Nat × Nat)) : Prop := ∀ i j (hi : i < l.length) (hj : j < l.length), i < j → (l[i]).1 ≤ (l[j]).1

theorem heap_sortS {w : World} {g n : Nat} {os : Array Obj} {cur : Array Value} {e : TypeId} {fr : Nat × Nat} (d : Array (Nat × Nat)) (hb : w.heap[g]? = some (.cells cur e fr)) :
    (sortWorldK encS 2 w g 0 n d os).heap[g]? = some (.cells (putCells id 0 (flatK encS 2 d) cur) e fr) := by
  have hg : g < w.heap.size := (Array.getElem?_eq_some_iff.1 hb).1
  unfold sortWorldK putRowK
  rw [heap_grow_old _ _ (by simpa using hg)]
  simp [putRow, mapBlock, Sort.ahead, Array.getElem?_modify, hb, onCells]
theorem grownBy_sortS {w : World} {g n : Nat} {os : Array Obj} (d : Array (Nat × Nat)) : w.grownBy (sortWorldK encS 2 w g 0 n d os) (some g) := by
  unfold sortWorldK putRowK
  refine ⟨rfl, rfl, rfl, by simp, fun k hk hne => ?_⟩
  rw [heap_grow_old _ _ (by simpa using hk)]
  have : g ≠ k := fun e => hne (by rw [e])
  simp [putRow, mapBlock, Sort.ahead, Array.getElem?_modify, this]
theorem take_putS (cur F : Array Value) (h : F.size ≤ cur.size) : (putCells id 0 F cur).toList.take F.size = F.toList := by
  apply List.ext_getElem?
  intro j
  by_cases hj : j < F.size
  · rw [List.getElem?_take_of_lt hj, Array.getElem?_toList]
    simp [putCells, hj, show j < cur.size by omega]
  · rw [List.getElem?_take_eq_none (by omega), List.getElem?_eq_none (by simp; omega)]

theorem sortFuncS (l : List (Nat × Nat)) (b g cap : Nat) (w : World) (h : Row w b (.slice (some ⟨g, 0, none⟩) l.length cap) l) (hl : l.length ≤ 4294967296) :
    Calls Try.prog 49 #[.slice (some ⟨g, 0, none⟩) l.length cap, .func (.func 50) #[] #[]] w fun e w' =>
      e = .returned (.tuple #[]) ∧ ∃ l' : List (Nat × Nat), l'.Perm l ∧ Rise l' ∧ Row w' b (.slice (some ⟨g, 0, none⟩) l'.length cap) l' ∧ w.grownBy w' (some g) := by
  have eg : ∀ args w, (callFunc 50 args).run Try.prog w = .ok (.enter 50 args) w := enters_of Try.func50 (by kernel_rfl) rfl
  rcases h.2 with ⟨hv, _⟩ | ⟨g', cap', cur, hv, hb, hg, hn, hm, hs, htk⟩
  · cases hv
  cases hv
  have hH : HoldsK encS 2 w g 0 l.toArray := by
    unfold HoldsK
    rw [flatK_eq]
    intro j hj
    have hj' : j < (flat l).length := by simpa using hj
    have h' : w.ownsRow b 26 2 (.slice (some ⟨g, 0, none⟩) l.length cap) l.length (flat l) := h
    rw [Nat.zero_add]
    refine ⟨?_, h'.frozenAt j⟩
    rw [h'.cellAt j (by rw [flat_length] at hj'; exact hj')]
    simp [List.getElem?_eq_getElem hj', hj']
  have hcon := AnyQ.slices_SortFunc Try.sortSp 2 Try.isAgg26 Try.sizeOf26 encS (fun _ => rfl) (fun x v hv => by simp [encS] at hv; rcases hv with rfl | rfl <;> rfl) cmpI swoS 50 #[] g 0 cap l.toArray w eg (cmpLays g 0 _ w) hH (Array.getElem?_eq_some_iff.1 hg).1 (by simp; omega)
  change Calls Try.prog 49 _ _ _ at hcon
  simp only [List.size_toArray] at hcon
  refine hcon.mono ?_
  rintro e w' ⟨he, d', n, os, hp, hso, rfl⟩
  refine ⟨he, d'.toList, ?_, ?_, ?_, grownBy_sortS d'⟩
  · have h3 := hp.2.2
    have hsz : d'.size = l.length := by simpa using hp.1
    have e1 : (d'.extract 0 l.length) = d' := by rw [← hsz]; simp
    have e2 : (l.toArray.extract 0 l.length) = l.toArray := by simp
    rw [e1, e2] at h3
    exact h3
  · intro i j hi hj hij
    have hsz : d'.size = l.length := by simpa using hp.1
    have hi' : i < d'.size := by simpa using hi
    have hj' : j < d'.size := by simpa using hj
    have := hso i j (Nat.zero_le _) hij (by omega)
    rw [ltS, getElem!_pos d' i hi', getElem!_pos d' j hj'] at this
    simp only [decide_eq_false_iff_not, Array.getElem_toList] at this ⊢
    omega
  · have hsz : d'.size = l.length := by simpa using hp.1
    have e1 : flatK encS 2 d' = (flat d'.toList).toArray := by
      have := flatK_eq d'.toList
      simpa using this
    refine ⟨flat_length _, .inr ⟨g, cap, _, rfl, hb, heap_sortS d' hg, by simp; omega, hm, by simp [putCells, hs], ?_⟩⟩
    have := take_putS cur (flatK encS 2 d') (by simp; omega)
    rw [size_flatK] at this
    rw [Array.length_toList, this, e1]

theorem perm_mem {l l' : List (Nat × Nat)} (h : l'.Perm l) (i : Nat) : memB l' i = memB l i := by
  rw [Bool.eq_iff_iff, memB_iff, memB_iff]
  exact ⟨fun ⟨s, hs, r⟩ => ⟨s, h.mem_iff.1 hs, r⟩, fun ⟨s, hs, r⟩ => ⟨s, h.mem_iff.2 hs, r⟩⟩
theorem made_row {w w1 : World} {l : List (Nat × Nat)} {z : Array Value} (hl : l.length ≤ 4294967296)
    (hg : w1.heap[w.heap.size]? = some (.cells (flat l ++ (madeCells z (l.length * 2)).toList.drop (l.length * 2)).toArray 26 (0, 0))) : Row w1 w.heap.size (.slice (some ⟨w.heap.size, 0, none⟩) l.length l.length) l := by
  have e : (madeCells z (l.length * 2)).toList.drop (l.length * 2) = [] := List.drop_eq_nil_of_le (by rw [Array.length_toList, size_madeCells]; exact Nat.le_refl _)
  rw [e, List.append_nil] at hg
  exact ⟨flat_length l, .inr ⟨w.heap.size, l.length, _, rfl, Nat.le_refl _, hg, Nat.le_refl _, by unfold maxLen; omega, by simp [flat_length], by rw [← flat_length]; simp⟩⟩
set_option maxHeartbeats 1000000 in
theorem sortedS (l : List (Nat × Nat)) (v : Value) (w : World) (h : Src w v l) (hl : l.length ≤ 4294967296) :
    Calls Try.prog 47 #[v] w fun e w' => ∃ (v' : Value) (l' : List (Nat × Nat)), e = .returned v' ∧ l'.Perm l ∧ Rise l' ∧ Row w' w.heap.size v' l' ∧ Below w.heap.size w w' := by
  obtain ⟨i0, hi, hz0, hz1, hz2⟩ := info_parts info_sp
  have hmk := fun W => run_make (P := Try.prog) W 41 26 i0 (.agg #[.int .u16 0, .int .u16 0]) Try.underlying41 hi hz0 .i64 .i64 l.length l.length (by omega) (Int.le_refl _) (by rw [hz2]; omega) (by omega)
  simp only [hz1, Int.toNat_natCast] at hmk
  have h' := h
  obtain ⟨ad, cap, rfl, _⟩ := h'
  have hs1 := h.keep ((Below.refl _ _).alloc (Nat.le_refl _) (.cells (madeCells #[Value.int .u16 0, Value.int .u16 0] (l.length * 2)) 26))
  obtain ⟨w1, hr, hg1, hgr1⟩ := run_copy_src _ 3 w.heap.size l.length l.length _ (heap_alloc_new w _) _ l hs1 (Nat.le_refl _) (by rw [size_madeCells]; exact Nat.le_refl _)
  have HG : Hid (Row w1 w.heap.size (.slice (some ⟨w.heap.size, 0, none⟩) l.length l.length) l) := made_row hl hg1
  clear hg1 hs1 h hi hz0 hz1 hz2
  go_enter Try.func47, Try.ntmps47
  go_wp2_with (go_at_call 49; fail)
  refine (sortFuncS l w.heap.size w.heap.size l.length w1 HG.out hl).mono ?_
  rintro e w2 ⟨rfl, l', hp, hr, hrow, hgr2⟩
  go_wp2
  go_ret
  refine ⟨_, l', rfl, hp, hr, ?_, ?_⟩
  · have := hp.length_eq
    rw [this] at hrow
    exact hrow
  · exact ((((Below.refl _ _).alloc (Nat.le_refl _) _).grown hgr1 (by simp) (fun k hk => by simp at hk; omega)).grown hgr2 (by have := hgr1.size; simp at this; omega) (fun k hk => by simp at hk; omega))
end Go.Proofs.Ytapaoemcjpfpoaa
