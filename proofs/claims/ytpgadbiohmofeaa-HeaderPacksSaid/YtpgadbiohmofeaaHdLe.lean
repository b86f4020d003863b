/-
  'copy' of a list of bytes into a row of the call's own, one byte longer.
-/
import Derived.Laws.CopyOwn
import Derived.Test.YtpgadbiohmofeaaHdU
namespace Go.Proofs.Ytpgadbiohmofeaa
open Go.RowKit
set_option linter.unusedVariables false
set_option linter.unusedSimpArgs false

theorem flatB_get {l : List Nat} {j : Nat} {u : Value} (h : (flatB l)[j]? = some u) : ∃ hj : j < l.length, u = .int .u8 ((l[j]'hj : Nat) : Int) := by
  have hj : j < (flatB l).length := (List.getElem?_eq_some_iff.1 h).1
  rw [flatB_length] at hj
  refine ⟨by omega, ?_⟩
  rw [flatB_at l j (by omega)] at h
  exact (Option.some.inj h).symm
theorem run_copy_srcB (w : World) (ty : TypeId) (g dLen dCap : Nat) (cur : Array Value) (hg : w.heap[g]? = some (.cells cur 5 (0, 0))) (v : Value) (l : List Nat) (hs : SrcB w v l)
    (hn : l.length ≤ dLen) (hfit : l.length ≤ cur.size) :
    ∃ w', (Builtin.copy_ #[26, 26] ty #[.slice (some ⟨g, 0, none⟩) dLen dCap, v]).run Try.prog w = .ok (goInt l.length) w' ∧
      w'.heap[g]? = some (.cells (flatB l ++ cur.toList.drop l.length).toArray 5 (0, 0)) ∧ w.grownBy w' (some g) := by
  obtain ⟨i0, hi, hz0, hz1, hz2⟩ := info_parts info_u8
  obtain ⟨ad, cap, rfl, _, h2⟩ := hs
  have hmin : Nat.min l.length dLen = l.length := Nat.min_eq_left hn
  by_cases h0 : 0 < l.length
  · obtain ⟨g2, off, rfl, h3⟩ := h2 h0
    have hl := run_loadCells_list (P := Try.prog) w ⟨g2, off, none⟩ (flatB l) (fun j u hu => by
      rw [Addr.add_lit]
      obtain ⟨hj, rfl⟩ := flatB_get hu
      exact h3 j hj)
    rw [flatB_length, Nat.mul_one] at hl
    have hst := run_storeCells_at Try.prog g 0 5 (flatB l) 0 cur w hg (by rw [flatB_length]; omega) (flatB_one l)
    refine ⟨_, ?_, setRow_heap w g cur _ _ _ hg, ⟨rfl, rfl, rfl, by simp, fun k _ hk => setRow_other w g k _ (fun e => hk (by simp [e]))⟩⟩
    simp only [Nat.zero_add, List.take_zero, List.nil_append, flatB_length, Nat.add_zero, Nat.mul_one] at hst
    simp [Builtin.copy_, Try.runUnderlying26, Builtin.lenOf, Builtin.firstCells, sizeOf, typeInfo, hi, hz1, hmin, hl, hst]
  · have e : l = [] := List.eq_nil_of_length_eq_zero (by omega)
    subst e
    refine ⟨w, ?_, by simpa [flatB] using hg, ⟨rfl, rfl, rfl, Nat.le_refl _, fun _ _ _ => rfl⟩⟩
    have hl : ∀ (x : Addr), (loadCells x 0).run Try.prog w = .ok #[] w := fun x => by simpa using run_loadCells_list (P := Try.prog) w x [] (by simp)
    cases ad <;> simp [Builtin.copy_, Try.runUnderlying26, Builtin.lenOf, Builtin.firstCells, sizeOf, typeInfo, hi, hz1, storeCells, hl]
/-- A row of n + 1 bytes, made anew, with the list copied into it. -/
theorem lentB (w : World) (l : List Nat) (v : Value) (hs : SrcB w v l) (ty : TypeId) : ∃ w1,
    (Builtin.copy_ #[26, 26] ty #[.slice (some ⟨w.heap.size, 0, none⟩) l.length (l.length + 1), v]).run Try.prog (w.alloc (.cells (madeCells #[.int .u8 0] (l.length + 1)) 5)) = .ok (goInt l.length) w1
    ∧ (∀ k (hk : k < l.length), w1.cell? ⟨w.heap.size, k, none⟩ = some (.int .u8 ((l[k]'hk : Nat) : Int))) ∧ w1.cell? ⟨w.heap.size, l.length, none⟩ = some (.int .u8 0) ∧ (∀ i, w1.frozen? ⟨w.heap.size, i, none⟩ = false) ∧ Below w.heap.size w w1 ∧ w.heap.size < w1.heap.size := by
  have hs1 := hs.keep ((Below.refl _ _).alloc (Nat.le_refl _) (.cells (madeCells #[Value.int .u8 0] (l.length + 1)) 5))
  obtain ⟨w1, hr, hg1, hgr1⟩ := run_copy_srcB _ ty w.heap.size l.length (l.length + 1) _ (heap_alloc_new w _) _ l hs1 (Nat.le_refl _) (by rw [size_madeCells]; omega)
  have hdrop : (madeCells #[Value.int .u8 0] (l.length + 1)).toList.drop l.length = [Value.int .u8 0] := by
    rw [toList_madeCells_one, List.drop_replicate]
    simp
  rw [hdrop] at hg1
  refine ⟨w1, hr, fun k hk => ?_, ?_, fun i => ?_, ((Below.refl _ _).alloc (Nat.le_refl _) _).grown hgr1 (by simp) (fun k hk => by simp at hk; omega), (Array.getElem?_eq_some_iff.1 hg1).1⟩
  · rw [cell_of_row w1 w.heap.size k _ _ (0, 0) hg1]
    rw [List.getElem?_toArray, List.getElem?_append_left (by rw [flatB_length]; omega)]
    exact flatB_at l k hk
  · rw [cell_of_row w1 w.heap.size l.length _ _ (0, 0) hg1]
    rw [List.getElem?_toArray, List.getElem?_append_right (by rw [flatB_length]; omega), flatB_length, Nat.mul_one, Nat.sub_self]
    rfl
  · simp [World.frozen?, hg1]
end Go.Proofs.Ytpgadbiohmofeaa
