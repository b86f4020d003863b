/-
  A list of spans that is read; 'copy' into a row of the call's own; the library's sort of a row of spans by Compare.
-/
import Derived.Shelf.SlSortCmp.WholeK
import Derived.Shelf.Lay
import Derived.Ground.SlsfProg
import Derived.Laws.CopyOwn
import Derived.Test.YtapaoemcjpfpoaaSpSr
namespace Go.Proofs.Ytapaoemcjpfpoaa
open Go.RowKit Go.Shelf Go.Sort
set_option linter.unusedVariables false
set_option linter.unusedSimpArgs false

/-- 'copy' into a row that is known whole. -/
theorem run_copy_src (w : World) (ty : TypeId) (g dLen dCap : Nat) (cur : Array Value) (hg : w.heap[g]? = some (.cells cur 26 (0, 0))) (v : Value) (l : List (Nat × Nat)) (hs : Src w v l)
    (hn : l.length ≤ dLen) (hfit : l.length * 2 ≤ cur.size) :
    ∃ w', (Builtin.copy_ #[41, 41] ty #[.slice (some ⟨g, 0, none⟩) dLen dCap, v]).run Try.prog w = .ok (goInt l.length) w' ∧
      w'.heap[g]? = some (.cells (flat l ++ cur.toList.drop (l.length * 2)).toArray 26 (0, 0)) ∧ w.grownBy w' (some g) := by
  obtain ⟨i0, hi, hz0, hz1, hz2⟩ := info_parts info_sp
  obtain ⟨ad, cap, rfl, h2⟩ := hs
  have hmin : Nat.min l.length dLen = l.length := Nat.min_eq_left hn
  by_cases h0 : 0 < l.length
  · obtain ⟨g2, off, rfl, h3⟩ := h2 h0
    have hl := run_loadCells_list (P := Try.prog) w ⟨g2, off, none⟩ (flat l) (fun j u hu => by rw [Addr.add_lit]; exact h3 j u hu)
    rw [flat_length] at hl
    have hst := run_storeCells_at Try.prog g 0 26 (flat l) 0 cur w hg (by rw [flat_length]; omega) (flat_one l)
    refine ⟨_, ?_, setRow_heap w g cur _ _ _ hg, ⟨rfl, rfl, rfl, by simp, fun k _ hk => setRow_other w g k _ (fun e => hk (by simp [e]))⟩⟩
    simp only [Nat.zero_add, List.take_zero, List.nil_append, flat_length, Nat.add_zero] at hst
    simp [Builtin.copy_, Try.runUnderlying41, Builtin.lenOf, Builtin.firstCells, sizeOf, typeInfo, hi, hz1, hmin, hl, hst]
  · have e : l = [] := List.eq_nil_of_length_eq_zero (by omega)
    subst e
    refine ⟨w, ?_, by simpa [flat] using hg, ⟨rfl, rfl, rfl, Nat.le_refl _, fun _ _ _ => rfl⟩⟩
    have hl : ∀ (x : Addr), (loadCells x 0).run Try.prog w = .ok #[] w := fun x => by simpa using run_loadCells_list (P := Try.prog) w x [] (by simp)
    cases ad <;> simp [Builtin.copy_, Try.runUnderlying41, Builtin.lenOf, Builtin.firstCells, sizeOf, typeInfo, hi, hz1, storeCells, hl]
theorem wpList_copy_src {ops : Array Oper} {rest : List Oper} {o : Oper} {a : Act} {w : World} {Q : Exit → Act → World → Prop} (hgd : o.guard = none) (d s : Operand)
    (ho : o.op = .call { callee := .builtin .copy, args := #[d, s], argTypes := #[41, 41] })
    (g dLen dCap : Nat) (hd : a.eval d = .slice (some ⟨g, 0, none⟩) dLen dCap) (cur : Array Value) (hg : w.heap[g]? = some (.cells cur 26 (0, 0))) (v : Value) (hsv : a.eval s = v) (l : List (Nat × Nat)) (hs : Src w v l)
    (hn : l.length ≤ dLen) (hfit : l.length * 2 ≤ cur.size)
    (h : ∀ w', Hid (w'.heap[g]? = some (.cells (flat l ++ cur.toList.drop (l.length * 2)).toArray 26 (0, 0))) → w.grownBy w' (some g) → wpList Try.prog ops Q rest (a.put o.dst (goInt l.length)) w') : wpList Try.prog ops Q (o :: rest) a w := by
  refine wpList_plain hgd fun K hK => ?_
  obtain ⟨w', hr, h1, h2⟩ := run_copy_src w o.type g dLen dCap cur hg v l hs hn hfit
  unfold Oper.wp
  simp [execOp, ho, resolve, invoke, builtin, hd, hsv, hr, Result.andThen]
  exact hK _ _ (h w' h1 h2)

/-! The order. -/
def encS (x : Nat × Nat) : List Value := [.int .u16 (x.1 : Int), .int .u16 (x.2 : Int)]
theorem ltS (x y : Nat × Nat) : ltOf cmpI x y = decide (x.1 < y.1 ∨ (x.1 = y.1 ∧ x.2 < y.2)) := by
  unfold ltOf cmpI
  by_cases h : x = y
  · subst h; simp
  · rw [if_neg h]
    by_cases h2 : x.1 < y.1 ∨ (x.1 = y.1 ∧ x.2 < y.2)
    · rw [if_pos h2]; simp [h2]
    · rw [if_neg h2]; simp [h2]
theorem swoS : SWO (ltOf cmpI) where
  irrefl x := by rw [ltS]; simp
  trans x y z h1 h2 := by rw [ltS] at *; simp at *; omega
  ntrans x y z h1 h2 := by rw [ltS] at *; simp at *; omega

shelf_lay_g SlLaysF0.n6 Slsf 6 at Try 49 as Try.sortSp

theorem flatK_eq (l : List (Nat × Nat)) : flatK encS 2 l.toArray = (flat l).toArray := by
  refine ext_get! (by simp [flat_length]) fun t ht => ?_
  have ht' : t < l.length * 2 := by simpa using ht
  have hq : t / 2 < l.length := by omega
  rw [get_flatK _ _ _ t (by simpa using ht')]
  have f := flat_at l (t / 2) hq
  have e0 : l.toArray[t / 2]! = l[t / 2] := by simp [getElem!_pos, hq]
  rw [e0]
  rcases Nat.mod_two_eq_zero_or_one t with h | h
  · rw [h]
    have e : t / 2 * 2 = t := by omega
    rw [e] at f
    have : (flat l)[t]? = some (Value.int .u16 ((l[t / 2]).1 : Int)) := f.1
    simp [encS, this]
  · rw [h]
    have e : t / 2 * 2 + 1 = t := by omega
    rw [e] at f
    have : (flat l)[t]? = some (Value.int .u16 ((l[t / 2]).2 : Int)) := f.2
    simp [encS, this]
end Go.Proofs.Ytapaoemcjpfpoaa
