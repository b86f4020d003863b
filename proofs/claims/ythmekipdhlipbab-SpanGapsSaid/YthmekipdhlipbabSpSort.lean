/-
  A list of spans that is read; 'copy' into a row of the call's own; the library's sort of a row of spans by Compare.
-/
import Derived.Shelf.SlSortCmp.WholeK
import Derived.Shelf.Lay
import Derived.Ground.SlsfProg
import Derived.Laws.CopyOwn
import Derived.Test.YthmekipdhlipbabSpU
namespace Go.Proofs.Ythmekipdhlipbab
open Go.RowKit Go.Shelf Go.Sort
set_option linter.unusedVariables false
set_option linter.unusedSimpArgs false

/-- The slice v of w reads as the list. -/
def Src (w : World) (v : Value) (l : List (Nat × Nat)) : Prop :=
  ∃ (ad : Option Addr) (cap : Nat), v = .slice ad l.length cap ∧ (0 < l.length → ∃ g off, ad = some ⟨g, off, none⟩ ∧ ∀ j u, (flat l)[j]? = some u → w.cell? ⟨g, off + j, none⟩ = some u)
theorem Row.src {w : World} {b : Nat} {v : Value} {l : List (Nat × Nat)} (h : Row w b v l) : Src w v l := by
  rcases h.2 with ⟨hv, hn⟩ | ⟨g, cap, cur, hv, hb, hg, r⟩
  · exact ⟨none, 0, by rw [hv, hn], fun h0 => by omega⟩
  · subst hv
    refine ⟨_, cap, rfl, fun _ => ⟨g, 0, rfl, fun j u hu => ?_⟩⟩
    have := World.ownsRow.cells h (g := g) rfl j u hu
    rwa [Addr.add_lit] at this
theorem Src.keep {w w1 : World} {v : Value} {l : List (Nat × Nat)} (h : Src w v l) (hb : Below w.heap.size w w1) : Src w1 v l := by
  obtain ⟨ad, cap, rfl, h2⟩ := h
  refine ⟨ad, cap, rfl, fun h0 => ?_⟩
  obtain ⟨g, off, rfl, h3⟩ := h2 h0
  exact ⟨g, off, rfl, fun j u hu => by
    have := h3 j u hu
    rw [hb.cell (World.block_lt_of_cell? w _ this)]; exact this⟩
theorem Src.at {w : World} {v : Value} {l : List (Nat × Nat)} (h : Src w v l) : ∃ (ad : Option Addr) (cap : Nat), v = .slice ad l.length cap ∧
    (0 < l.length → ∃ g off, ad = some ⟨g, off, none⟩ ∧ ∀ k (hk : k < l.length), w.cell? ⟨g, off + k * 2, none⟩ = some (.int .u16 ((l[k]'hk).1 : Int)) ∧ w.cell? ⟨g, off + k * 2 + 1, none⟩ = some (.int .u16 ((l[k]'hk).2 : Int))) := by
  obtain ⟨ad, cap, rfl, h2⟩ := h
  refine ⟨ad, cap, rfl, fun h0 => ?_⟩
  obtain ⟨g, off, rfl, h3⟩ := h2 h0
  exact ⟨g, off, rfl, fun k hk => ⟨h3 _ _ (flat_at l k hk).1, by rw [Nat.add_assoc]; exact h3 _ _ (flat_at l k hk).2⟩⟩

/-- 'copy' into a row that is known whole. -/
theorem run_copy_src (w : World) (ty : TypeId) (g dLen dCap : Nat) (cur : Array Value) (hg : w.heap[g]? = some (.cells cur 31 (0, 0))) (v : Value) (l : List (Nat × Nat)) (hs : Src w v l)
    (hn : l.length ≤ dLen) (hfit : l.length * 2 ≤ cur.size) :
    ∃ w', (Builtin.copy_ #[22, 22] ty #[.slice (some ⟨g, 0, none⟩) dLen dCap, v]).run Try.prog w = .ok (goInt l.length) w' ∧
      w'.heap[g]? = some (.cells (flat l ++ cur.toList.drop (l.length * 2)).toArray 31 (0, 0)) ∧ w.grownBy w' (some g) := by
  obtain ⟨i0, hi, hz0, hz1, hz2⟩ := info_parts info_sp
  obtain ⟨ad, cap, rfl, h2⟩ := hs
  have hmin : Nat.min l.length dLen = l.length := Nat.min_eq_left hn
  by_cases h0 : 0 < l.length
  · obtain ⟨g2, off, rfl, h3⟩ := h2 h0
    have hl := run_loadCells_list (P := Try.prog) w ⟨g2, off, none⟩ (flat l) (fun j u hu => by rw [Addr.add_lit]; exact h3 j u hu)
    rw [flat_length] at hl
    have hst := run_storeCells_at Try.prog g 0 31 (flat l) 0 cur w hg (by rw [flat_length]; omega) (flat_one l)
    refine ⟨_, ?_, setRow_heap w g cur _ _ _ hg, ⟨rfl, rfl, rfl, by simp, fun k _ hk => setRow_other w g k _ (fun e => hk (by simp [e]))⟩⟩
    simp only [Nat.zero_add, List.take_zero, List.nil_append, flat_length, Nat.add_zero] at hst
    simp [Builtin.copy_, Try.runUnderlying22, Builtin.lenOf, Builtin.firstCells, sizeOf, typeInfo, hi, hz1, hmin, hl, hst]
  · have e : l = [] := List.eq_nil_of_length_eq_zero (by omega)
    subst e
    refine ⟨w, ?_, by simpa [flat] using hg, ⟨rfl, rfl, rfl, Nat.le_refl _, fun _ _ _ => rfl⟩⟩
    have hl : ∀ (x : Addr), (loadCells x 0).run Try.prog w = .ok #[] w := fun x => by simpa using run_loadCells_list (P := Try.prog) w x [] (by simp)
    cases ad <;> simp [Builtin.copy_, Try.runUnderlying22, Builtin.lenOf, Builtin.firstCells, sizeOf, typeInfo, hi, hz1, storeCells, hl]
theorem wpList_copy_src {ops : Array Oper} {rest : List Oper} {o : Oper} {a : Act} {w : World} {Q : Exit → Act → World → Prop} (hgd : o.guard = none) (d s : Operand)
    (ho : o.op = .call { callee := .builtin .copy, args := #[d, s], argTypes := #[22, 22] })
    (g dLen dCap : Nat) (hd : a.eval d = .slice (some ⟨g, 0, none⟩) dLen dCap) (cur : Array Value) (hg : w.heap[g]? = some (.cells cur 31 (0, 0))) (v : Value) (hsv : a.eval s = v) (l : List (Nat × Nat)) (hs : Src w v l)
    (hn : l.length ≤ dLen) (hfit : l.length * 2 ≤ cur.size)
    (h : ∀ w', Hid (w'.heap[g]? = some (.cells (flat l ++ cur.toList.drop (l.length * 2)).toArray 31 (0, 0))) → w.grownBy w' (some g) → wpList Try.prog ops Q rest (a.put o.dst (goInt l.length)) w') : wpList Try.prog ops Q (o :: rest) a w := by
  refine wpList_plain hgd fun K hK => ?_
  obtain ⟨w', hr, h1, h2⟩ := run_copy_src w o.type g dLen dCap cur hg v l hs hn hfit
  unfold Oper.wp
  simp [execOp, ho, resolve, invoke, builtin, hd, hsv, hr, Result.andThen]
  exact hK _ _ (h w' h1 h2)

/-! The order. -/
def encS (x : Nat × Nat) : List Value := [.int .u16 (x.1 : Int), .int .u16 (x.2 : Int)]
theorem ltS (x y : Nat × Nat) : ltOf cmpI x y = decide (x.1 < y.1 ∨ (x.1 = y.1 ∧ x.2 < y.2)) := by
  unfold ltOf cmpI
  by_cases h : x = y
  · subst h; simp
  · rw [if_neg h]
    by_cases h2 : x.1 < y.1 ∨ (x.1 = y.1 ∧ x.2 < y.2)
    · rw [if_pos h2]; simp [h2]
    · rw [if_neg h2]; simp [h2]
theorem swoS : SWO (ltOf cmpI) where
  irrefl x := by rw [ltS]; simp
  trans x y z h1 h2 := by rw [ltS] at *; simp at *; omega
  ntrans x y z h1 h2 := by rw [ltS] at *; simp at *; omega

shelf_lay_g SlLaysF0.n6 Slsf 6 at Try 28 as Try.sortSp

theorem flatK_eq (l : List (Nat × Nat)) : flatK encS 2 l.toArray = (flat l).toArray := by
  refine ext_get! (by simp [flat_length]) fun t ht => ?_
  have ht' : t < l.length * 2 := by simpa using ht
  have hq : t / 2 < l.length := by omega
  rw [get_flatK _ _ _ t (by simpa using ht')]
  have f := flat_at l (t / 2) hq
  have e0 : l.toArray[t / 2]! = l[t / 2] := by simp [getElem!_pos, hq]
  rw [e0]
  rcases Nat.mod_two_eq_zero_or_one t with h | h
  · rw [h]
    have e : t / 2 * 2 = t := by omega
    rw [e] at f
    have : (flat l)[t]? = some (Value.int .u16 ((l[t / 2]).1 : Int)) := f.1
    simp [encS, this]
  · rw [h]
    have e : t / 2 * 2 + 1 = t := by omega
    rw [e] at f
    have : (flat l)[t]? = some (Value.int .u16 ((l[t / 2]).2 : Int)) := f.2
    simp [encS, this]
end Go.Proofs.Ythmekipdhlipbab
