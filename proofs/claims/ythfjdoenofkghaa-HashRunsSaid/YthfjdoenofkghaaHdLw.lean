/-
  Lists of numbers of 32 bits in memory: read; 'copy' into a row of the call's own, one longer.
-/
import Derived.Laws.CopyOwn
import Derived.Test.YthfjdoenofkghaaHdU
namespace Go.Proofs.Ythfjdoenofkghaa
open Go.RowKit
set_option linter.unusedVariables false
set_option linter.unusedSimpArgs false

/-- The slice v of w reads as the list of numbers. -/
def SrcW (w : World) (v : Value) (l : List Nat) : Prop :=
  ∃ (ad : Option Addr) (cap : Nat), v = .slice ad l.length cap ∧ l.length ≤ cap ∧ (0 < l.length → ∃ g off, ad = some ⟨g, off, none⟩ ∧ ∀ k (hk : k < l.length), w.cell? ⟨g, off + k, none⟩ = some (.int .u32 ((l[k]'hk : Nat) : Int)))
theorem SrcW.keep {w w1 : World} {v : Value} {l : List Nat} (h : SrcW w v l) (hb : Below w.heap.size w w1) : SrcW w1 v l := by
  obtain ⟨ad, cap, rfl, hc, h2⟩ := h
  refine ⟨ad, cap, rfl, hc, fun h0 => ?_⟩
  obtain ⟨g, off, rfl, h3⟩ := h2 h0
  exact ⟨g, off, rfl, fun k hk => by
    have := h3 k hk
    rw [hb.cell (World.block_lt_of_cell? w _ this)]; exact this⟩
def flatW (l : List Nat) : List Value := l.map fun p : Nat => Value.int .u32 ((p : Nat) : Int)
theorem flatW_length (l : List Nat) : (flatW l).length = l.length * 1 := by unfold flatW; simp
theorem flatW_append (l k : List Nat) : flatW (l ++ k) = flatW l ++ flatW k := by unfold flatW; simp
theorem flatW_one (l : List Nat) : ∀ u ∈ flatW l, u.oneCell' = true := by
  intro u hu
  unfold flatW at hu
  rw [List.mem_map] at hu
  obtain ⟨p, _, rfl⟩ := hu
  rfl
theorem flatW_at (l : List Nat) (i : Nat) (h : i < l.length) : (flatW l)[i]? = some (.int .u32 ((l[i]'h : Nat) : Int)) := by
  unfold flatW; simp [h]
theorem info_u32 : (Try.prog.info? 33).map (fun i => (i.zero, i.size, i.bytes)) = some (some (.int .u32 0), 1, 4) := by kernel_rfl

theorem flatW_get {l : List Nat} {j : Nat} {u : Value} (h : (flatW l)[j]? = some u) : ∃ hj : j < l.length, u = .int .u32 ((l[j]'hj : Nat) : Int) := by
  have hj : j < (flatW l).length := (List.getElem?_eq_some_iff.1 h).1
  rw [flatW_length] at hj
  refine ⟨by omega, ?_⟩
  rw [flatW_at l j (by omega)] at h
  exact (Option.some.inj h).symm
theorem run_copy_srcW (w : World) (ty : TypeId) (g dLen dCap : Nat) (cur : Array Value) (hg : w.heap[g]? = some (.cells cur 33 (0, 0))) (v : Value) (l : List Nat) (hs : SrcW w v l)
    (hn : l.length ≤ dLen) (hfit : l.length ≤ cur.size) :
    ∃ w', (Builtin.copy_ #[84, 84] ty #[.slice (some ⟨g, 0, none⟩) dLen dCap, v]).run Try.prog w = .ok (goInt l.length) w' ∧
      w'.heap[g]? = some (.cells (flatW l ++ cur.toList.drop l.length).toArray 33 (0, 0)) ∧ w.grownBy w' (some g) := by
  obtain ⟨i0, hi, hz0, hz1, hz2⟩ := info_parts info_u32
  obtain ⟨ad, cap, rfl, _, h2⟩ := hs
  have hmin : Nat.min l.length dLen = l.length := Nat.min_eq_left hn
  by_cases h0 : 0 < l.length
  · obtain ⟨g2, off, rfl, h3⟩ := h2 h0
    have hl := run_loadCells_list (P := Try.prog) w ⟨g2, off, none⟩ (flatW l) (fun j u hu => by
      rw [Addr.add_lit]
      obtain ⟨hj, rfl⟩ := flatW_get hu
      exact h3 j hj)
    rw [flatW_length, Nat.mul_one] at hl
    have hst := run_storeCells_at Try.prog g 0 33 (flatW l) 0 cur w hg (by rw [flatW_length]; omega) (flatW_one l)
    refine ⟨_, ?_, setRow_heap w g cur _ _ _ hg, ⟨rfl, rfl, rfl, by simp, fun k _ hk => setRow_other w g k _ (fun e => hk (by simp [e]))⟩⟩
    simp only [Nat.zero_add, List.take_zero, List.nil_append, flatW_length, Nat.add_zero, Nat.mul_one] at hst
    simp [Builtin.copy_, Try.runUnderlying84, Builtin.lenOf, Builtin.firstCells, sizeOf, typeInfo, hi, hz1, hmin, hl, hst]
  · have e : l = [] := List.eq_nil_of_length_eq_zero (by omega)
    subst e
    refine ⟨w, ?_, by simpa [flatW] using hg, ⟨rfl, rfl, rfl, Nat.le_refl _, fun _ _ _ => rfl⟩⟩
    have hl : ∀ (x : Addr), (loadCells x 0).run Try.prog w = .ok #[] w := fun x => by simpa using run_loadCells_list (P := Try.prog) w x [] (by simp)
    cases ad <;> simp [Builtin.copy_, Try.runUnderlying84, Builtin.lenOf, Builtin.firstCells, sizeOf, typeInfo, hi, hz1, storeCells, hl]
/-- A row of n + 1 numbers, made anew, with the list copied into it. -/
theorem lentW (w : World) (l : List Nat) (v : Value) (hs : SrcW w v l) (ty : TypeId) : ∃ w1,
    (Builtin.copy_ #[84, 84] ty #[.slice (some ⟨w.heap.size, 0, none⟩) l.length (l.length + 1), v]).run Try.prog (w.alloc (.cells (madeCells #[.int .u32 0] (l.length + 1)) 33)) = .ok (goInt l.length) w1
    ∧ (∀ k (hk : k < l.length), w1.cell? ⟨w.heap.size, k, none⟩ = some (.int .u32 ((l[k]'hk : Nat) : Int))) ∧ w1.cell? ⟨w.heap.size, l.length, none⟩ = some (.int .u32 0) ∧ (∀ i, w1.frozen? ⟨w.heap.size, i, none⟩ = false) ∧ Below w.heap.size w w1 ∧ w.heap.size < w1.heap.size := by
  have hs1 := hs.keep ((Below.refl _ _).alloc (Nat.le_refl _) (.cells (madeCells #[Value.int .u32 0] (l.length + 1)) 33))
  obtain ⟨w1, hr, hg1, hgr1⟩ := run_copy_srcW _ ty w.heap.size l.length (l.length + 1) _ (heap_alloc_new w _) _ l hs1 (Nat.le_refl _) (by rw [size_madeCells]; omega)
  have hdrop : (madeCells #[Value.int .u32 0] (l.length + 1)).toList.drop l.length = [Value.int .u32 0] := by
    rw [toList_madeCells_one, List.drop_replicate]
    simp
  rw [hdrop] at hg1
  refine ⟨w1, hr, fun k hk => ?_, ?_, fun i => ?_, ((Below.refl _ _).alloc (Nat.le_refl _) _).grown hgr1 (by simp) (fun k hk => by simp at hk; omega), (Array.getElem?_eq_some_iff.1 hg1).1⟩
  · rw [cell_of_row w1 w.heap.size k _ _ (0, 0) hg1]
    rw [List.getElem?_toArray, List.getElem?_append_left (by rw [flatW_length]; omega)]
    exact flatW_at l k hk
  · rw [cell_of_row w1 w.heap.size l.length _ _ (0, 0) hg1]
    rw [List.getElem?_toArray, List.getElem?_append_right (by rw [flatW_length]; omega), flatW_length, Nat.mul_one, Nat.sub_self]
    rfl
  · simp [World.frozen?, hg1]
end Go.Proofs.Ythfjdoenofkghaa
