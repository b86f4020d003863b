/-
  A list of spans that is read; 'copy' into a row of the call's own; the library's sort of a row of spans by Compare.
-/
import Derived.Shelf.SlSortCmp.WholeK
import Derived.Laws.CopyOwn
import Derived.Test.YthmekipdhlipbaaSpU
namespace Go.Proofs.Ythmekipdhlipbaa
open Go.RowKit Go.Shelf Go.Sort
set_option linter.unusedVariables false
set_option linter.unusedSimpArgs false

/-- The slice v of w reads as the list. -/
def Src (w : World) (v : Value) (l : List (Nat × Nat)) : Prop :=
  ∃ (ad : Option Addr) (cap : Nat), v = .slice ad l.length cap ∧ (0 < l.length → ∃ g off, ad = some ⟨g, off, none⟩ ∧ ∀ j u, (flat l)[j]? = some u → w.cell? ⟨g, off + j, none⟩ = some u)
theorem Row.src {w : World} {b : Nat} {v : Value} {l : List (Nat × Nat)} (h : Row w b v l) : Src w v l := by
  rcases h.2 with ⟨hv, hn⟩ | ⟨g, cap, cur, hv, hb, hg, r⟩
  · exact ⟨none, 0, by rw [hv, hn], fun h0 => by omega⟩
  · subst hv
    refine ⟨_, cap, rfl, fun _ => ⟨g, 0, rfl, fun j u hu => ?_⟩⟩
    have := World.ownsRow.cells h (g := g) rfl j u hu
    rwa [Addr.add_lit] at this
theorem Src.keep {w w1 : World} {v : Value} {l : List (Nat × Nat)} (h : Src w v l) (hb : Below w.heap.size w w1) : Src w1 v l := by
  obtain ⟨ad, cap, rfl, h2⟩ := h
  refine ⟨ad, cap, rfl, fun h0 => ?_⟩
  obtain ⟨g, off, rfl, h3⟩ := h2 h0
  exact ⟨g, off, rfl, fun j u hu => by
    have := h3 j u hu
    rw [hb.cell (World.block_lt_of_cell? w _ this)]; exact this⟩
theorem Src.at {w : World} {v : Value} {l : List (Nat × Nat)} (h : Src w v l) : ∃ (ad : Option Addr) (cap : Nat), v = .slice ad l.length cap ∧
    (0 < l.length → ∃ g off, ad = some ⟨g, off, none⟩ ∧ ∀ k (hk : k < l.length), w.cell? ⟨g, off + k * 2, none⟩ = some (.int .u16 ((l[k]'hk).1 : Int)) ∧ w.cell? ⟨g, off + k * 2 + 1, none⟩ = some (.int .u16 ((l[k]'hk).2 : Int))) := by
  obtain ⟨ad, cap, rfl, h2⟩ := h
  refine ⟨ad, cap, rfl, fun h0 => ?_⟩
  obtain ⟨g, off, rfl, h3⟩ := h2 h0
  exact ⟨g, off, rfl, fun k hk => ⟨h3 _ _ (flat_at l k hk).1, by rw [Nat.add_assoc]; exact h3 _ _ (flat_at l k hk).2⟩⟩

/-- 'copy' into a row that is known whole. -/
theorem run_copy_src (w : World) (ty : TypeId) (g dLen dCap : Nat) (cur : Array Value) (hg : w.heap[g]? = some (.cells cur 41 (0, 0))) (v : Value) (l : List (Nat × Nat)) (hs : Src w v l)
    (hn : l.length ≤ dLen) (hfit : l.length * 2 ≤ cur.size) :
    ∃ w', (Builtin.copy_ #[48, 48] ty #[.slice (some ⟨g, 0, none⟩) dLen dCap, v]).run Try.prog w = .ok (goInt l.length) w' ∧
      w'.heap[g]? = some (.cells (flat l ++ cur.toList.drop (l.length * 2)).toArray 41 (0, 0)) ∧ w.grownBy w' (some g) := by
  obtain ⟨i0, hi, hz0, hz1, hz2⟩ := info_parts info_sp
  obtain ⟨ad, cap, rfl, h2⟩ := hs
  have hmin : Nat.min l.length dLen = l.length := Nat.min_eq_left hn
  by_cases h0 : 0 < l.length
  · obtain ⟨g2, off, rfl, h3⟩ := h2 h0
    have hl := run_loadCells_list (P := Try.prog) w ⟨g2, off, none⟩ (flat l) (fun j u hu => by rw [Addr.add_lit]; exact h3 j u hu)
    rw [flat_length] at hl
    have hst := run_storeCells_at Try.prog g 0 41 (flat l) 0 cur w hg (by rw [flat_length]; omega) (flat_one l)
    refine ⟨_, ?_, setRow_heap w g cur _ _ _ hg, ⟨rfl, rfl, rfl, by simp, fun k _ hk => setRow_other w g k _ (fun e => hk (by simp [e]))⟩⟩
    simp only [Nat.zero_add, List.take_zero, List.nil_append, flat_length, Nat.add_zero] at hst
    simp [Builtin.copy_, Try.runUnderlying48, Builtin.lenOf, Builtin.firstCells, sizeOf, typeInfo, hi, hz1, hmin, hl, hst]
  · have e : l = [] := List.eq_nil_of_length_eq_zero (by omega)
    subst e
    refine ⟨w, ?_, by simpa [flat] using hg, ⟨rfl, rfl, rfl, Nat.le_refl _, fun _ _ _ => rfl⟩⟩
    have hl : ∀ (x : Addr), (loadCells x 0).run Try.prog w = .ok #[] w := fun x => by simpa using run_loadCells_list (P := Try.prog) w x [] (by simp)
    cases ad <;> simp [Builtin.copy_, Try.runUnderlying48, Builtin.lenOf, Builtin.firstCells, sizeOf, typeInfo, hi, hz1, storeCells, hl]
theorem wpList_copy_src {ops : Array Oper} {rest : List Oper} {o : Oper} {a : Act} {w : World} {Q : Exit → Act → World → Prop} (hgd : o.guard = none) (d s : Operand)
    (ho : o.op = .call { callee := .builtin .copy, args := #[d, s], argTypes := #[48, 48] })
    (g dLen dCap : Nat) (hd : a.eval d = .slice (some ⟨g, 0, none⟩) dLen dCap) (cur : Array Value) (hg : w.heap[g]? = some (.cells cur 41 (0, 0))) (v : Value) (hsv : a.eval s = v) (l : List (Nat × Nat)) (hs : Src w v l)
    (hn : l.length ≤ dLen) (hfit : l.length * 2 ≤ cur.size)
    (h : ∀ w', Hid (w'.heap[g]? = some (.cells (flat l ++ cur.toList.drop (l.length * 2)).toArray 41 (0, 0))) → w.grownBy w' (some g) → wpList Try.prog ops Q rest (a.put o.dst (goInt l.length)) w') : wpList Try.prog ops Q (o :: rest) a w := by
  refine wpList_plain hgd fun K hK => ?_
  obtain ⟨w', hr, h1, h2⟩ := run_copy_src w o.type g dLen dCap cur hg v l hs hn hfit
  unfold Oper.wp
  simp [execOp, ho, resolve, invoke, builtin, hd, hsv, hr, Result.andThen]
  exact hK _ _ (h w' h1 h2)

/-! The order. -/
def encS (x : Nat × Nat) : List Value := [.int .u16 (x.1 : Int), .int .u16 (x.2 : Int)]
theorem ltS (x y : Nat × Nat) : ltOf cmpI x y = decide (x.1 < y.1 ∨ (x.1 = y.1 ∧ x.2 < y.2)) := by
  unfold ltOf cmpI
  by_cases h : x = y
  · subst h; simp
  · rw [if_neg h]
    by_cases h2 : x.1 < y.1 ∨ (x.1 = y.1 ∧ x.2 < y.2)
    · rw [if_pos h2]; simp [h2]
    · rw [if_neg h2]; simp [h2]
theorem swoS : SWO (ltOf cmpI) := {
  irrefl := fun x => by rw [ltS]; simp
  trans := fun x y z h1 h2 => by rw [ltS] at *; simp at *; omega
  ntrans := fun x y z h1 h2 => by rw [ltS] at *; simp at *; omega }

def Try.sortSp_ren : Go.Shelf.Ren := ⟨fun | 6 => 59 | 15 => 61 | 14 => 60 | 28 => 70 | 29 => 71 | 20 => 62 | 21 => 63 | 22 => 64 | 23 => 65 | 24 => 66 | 25 => 67 | 26 => 68 | 27 => 69 | 46 => 72 | 47 => 73 | 48 => 74 | 49 => 75 | 50 => 76 | 57 => 77 | n => n, fun | 22 => 48 | 24 => 41 | 25 => 66 | 3 => 3 | 39 => 74 | 0 => 0 | 53 => 22 | 55 => 91 | 4 => 4 | 46 => 83 | 45 => 82 | 50 => 87 | 5 => 5 | 9 => 9 | 66 => 92 | 70 => 96 | 76 => 98 | 77 => 99 | n => n, fun | n => n⟩
theorem Try.sortSp : Go.Proofs.SlLaysF0.n6 Try.prog Try.sortSp_ren := {
  mixed := by kernel_rfl
  f6 := ⟨Try.f59.name, by decide, Try.func59.trans (congrArg some (by kernel_rfl))⟩
  f14 := ⟨Try.f60.name, by decide, Try.func60.trans (congrArg some (by kernel_rfl))⟩
  f15 := Try.func61.trans (congrArg some (by kernel_rfl))
  f20 := ⟨Try.f62.name, by decide, Try.func62.trans (congrArg some (by kernel_rfl))⟩
  f21 := ⟨Try.f63.name, by decide, Try.func63.trans (congrArg some (by kernel_rfl))⟩
  f22 := ⟨Try.f64.name, by decide, Try.func64.trans (congrArg some (by kernel_rfl))⟩
  f23 := ⟨Try.f65.name, by decide, Try.func65.trans (congrArg some (by kernel_rfl))⟩
  f24 := ⟨Try.f66.name, by decide, Try.func66.trans (congrArg some (by kernel_rfl))⟩
  f25 := ⟨Try.f67.name, by decide, Try.func67.trans (congrArg some (by kernel_rfl))⟩
  f26 := ⟨Try.f68.name, by decide, Try.func68.trans (congrArg some (by kernel_rfl))⟩
  f27 := ⟨Try.f69.name, by decide, Try.func69.trans (congrArg some (by kernel_rfl))⟩
  f28 := Try.func70.trans (congrArg some (by kernel_rfl))
  f29 := Try.func71.trans (congrArg some (by kernel_rfl))
  f46 := ⟨Try.f72.name, by decide, Try.func72.trans (congrArg some (by kernel_rfl))⟩
  f47 := Try.func73.trans (congrArg some (by kernel_rfl))
  f48 := Try.func74.trans (congrArg some (by kernel_rfl))
  f49 := ⟨Try.f75.name, by decide, Try.func75.trans (congrArg some (by kernel_rfl))⟩
  f50 := ⟨Try.f76.name, by decide, Try.func76.trans (congrArg some (by kernel_rfl))⟩
  f57 := ⟨Try.f77.name, by decide, Try.func77.trans (congrArg some (by kernel_rfl))⟩
  t0 := Try.underlying0
  a0 := Try.isAgg0
  z0 := Try.sizeOf0
  v0 := Try.zeroValue0
  t3 := Try.underlying3
  a3 := Try.isAgg3
  z3 := Try.sizeOf3
  v3 := Try.zeroValue3
  t4 := Try.underlying4
  a4 := Try.isAgg4
  z4 := Try.sizeOf4
  v4 := Try.zeroValue4
  t5 := Try.underlying5
  a5 := Try.isAgg5
  z5 := Try.sizeOf5
  v5 := Try.zeroValue5
  t9 := Try.underlying9
  a9 := Try.isAgg9
  z9 := Try.sizeOf9
  v9 := Try.zeroValue9
  t22 := Try.underlying48
  a22 := Try.isAgg48
  z22 := Try.sizeOf48
  v22 := Try.zeroValue48
  t25 := Try.underlying66
  a25 := Try.isAgg66
  z25 := Try.sizeOf66
  v25 := Try.zeroValue66
  t39 := Try.underlying74
  a39 := Try.isAgg74
  z39 := Try.sizeOf74
  v39 := Try.zeroValue74
  t45 := Try.underlying82
  a45 := Try.isAgg82
  z45 := Try.sizeOf82
  v45 := Try.zeroValue82
  t46 := Try.underlying83
  a46 := Try.isAgg83
  z46 := Try.sizeOf83
  v46 := Try.zeroValue83
  t50 := Try.underlying87
  a50 := Try.isAgg87
  z50 := Try.sizeOf87
  v50 := Try.zeroValue87
  t53 := Try.underlying22
  a53 := Try.isAgg22
  z53 := Try.sizeOf22
  v53 := Try.zeroValue22
  t55 := Try.underlying91
  a55 := Try.isAgg91
  z55 := Try.sizeOf91
  v55 := Try.zeroValue91
  t66 := Try.underlying92
  a66 := Try.isAgg92
  z66 := Try.sizeOf92
  v66 := Try.zeroValue92
  t70 := Try.underlying96
  a70 := Try.isAgg96
  z70 := Try.sizeOf96
  v70 := Try.zeroValue96
  t76 := Try.underlying98
  a76 := Try.isAgg98
  z76 := Try.sizeOf98
  v76 := Try.zeroValue98
  t77 := Try.underlying99
  a77 := Try.isAgg99
  z77 := Try.sizeOf99
  v77 := Try.zeroValue99 }

theorem flatK_eq (l : List (Nat × Nat)) : flatK encS 2 l.toArray = (flat l).toArray := by
  refine ext_get! (by simp [flat_length]) fun t ht => ?_
  have ht' : t < l.length * 2 := by simpa using ht
  have hq : t / 2 < l.length := by omega
  rw [get_flatK _ _ _ t (by simpa using ht')]
  have f := flat_at l (t / 2) hq
  have e0 : l.toArray[t / 2]! = l[t / 2] := by simp [getElem!_pos, hq]
  rw [e0]
  rcases Nat.mod_two_eq_zero_or_one t with h | h
  · rw [h]
    have e : t / 2 * 2 = t := by omega
    rw [e] at f
    have : (flat l)[t]? = some (Value.int .u16 ((l[t / 2]).1 : Int)) := f.1
    simp [encS, this]
  · rw [h]
    have e : t / 2 * 2 + 1 = t := by omega
    rw [e] at f
    have : (flat l)[t]? = some (Value.int .u16 ((l[t / 2]).2 : Int)) := f.2
    simp [encS, this]
end Go.Proofs.Ythmekipdhlipbaa
