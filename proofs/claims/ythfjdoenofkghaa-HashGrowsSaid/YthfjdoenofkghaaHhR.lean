/-
  slices.SortFunc of rows of slots, by their headers.
-/
import Derived.Shelf.SlSortCmp.WholeK
import Derived.Test.YthfjdoenofkghaaHhP
import Derived.Test.YthfjdoenofkghaaHgPd
namespace Go.Proofs.Ythfjdoenofkghaa
open Go.RowKit Go.Shelf Go.Sort Go.Lib
set_option linter.unusedVariables false
set_option linter.unusedSimpArgs false

/-- A slot whose header may be. -/
abbrev SlO := { s : SlI // OkH s.k }
def slO : SlO := ⟨slZ, by unfold OkH slZ; decide⟩
def encQ (s : SlO) : List Value := encL s.1
def cfQ (x y : SlO) : Int := cmpH x.1.k y.1.k
theorem lt_cfQ (x y : SlO) : ltOf cfQ x y = true ↔ val x.1.k < val y.1.k := by
  unfold ltOf cfQ cmpH
  rw [decide_eq_true_iff]
  repeat' split
  all_goals omega
theorem lt_cfQ' (x y : SlO) : ltOf cfQ x y = false ↔ ¬ val x.1.k < val y.1.k := by rw [← lt_cfQ]; simp
theorem swoQ : SWO (ltOf cfQ) := {
  irrefl := fun x => by rw [lt_cfQ']; omega
  trans := fun x y z h1 h2 => by rw [lt_cfQ] at *; omega
  ntrans := fun x y z h1 h2 => by rw [lt_cfQ'] at *; omega }
theorem bd_grow {w w' : World} (h : Bd w.heap.size w w') : ∃ q os, w' = grow (w.drewN q) os := by
  refine ⟨w'.drawn - w.drawn, w'.heap.extract w.heap.size, ?_⟩
  have hh : w'.heap = w.heap ++ w'.heap.extract w.heap.size := by
    apply Array.ext_getElem?
    intro i
    by_cases hi : i < w.heap.size
    · rw [h.block i hi, Array.getElem?_append_left hi]
    · rw [Array.getElem?_append_right (by omega), Array.getElem?_extract]
      by_cases hj : i < w'.heap.size
      · rw [if_pos (by omega), show w.heap.size + (i - w.heap.size) = i by omega]
      · rw [if_neg (by omega), Array.getElem?_eq_none (by omega)]
  obtain ⟨hp, tp, dr, os, op⟩ := w'
  have e1 := h.os
  have e2 := h.tape
  have e3 := h.output
  have e4 := h.dr
  simp only at e1 e2 e3 e4 hh
  unfold grow World.drewN
  simp only [World.mk.injEq]
  exact ⟨hh, e2, by omega, e1, e3⟩
set_option maxHeartbeats 1000000 in
theorem cmpQC (x y : SlO) (w : World) :
    Calls Try.prog 34 #[.agg #[.int .i64 ((x.1).st : Int), .int .u32 ((x.1).k.s : Int), .int .u32 ((x.1).k.d : Int), .int .u16 ((x.1).k.p : Int), .int .u16 ((x.1).k.q : Int), .int .u8 ((x.1).k.r : Int), .int .i64 (x.1).v], .agg #[.int .i64 ((y.1).st : Int), .int .u32 ((y.1).k.s : Int), .int .u32 ((y.1).k.d : Int), .int .u16 ((y.1).k.p : Int), .int .u16 ((y.1).k.q : Int), .int .u8 ((y.1).k.r : Int), .int .i64 (y.1).v]] w fun e w' => e = .returned (.int .i64 (cfQ x y)) ∧ ∃ q os, w' = grow (w.drewN q) os := by
  obtain ⟨s, hs⟩ := x
  obtain ⟨u, hu⟩ := y
  show Calls Try.prog 34 #[.agg #[.int .i64 (s.st : Int), .int .u32 (s.k.s : Int), .int .u32 (s.k.d : Int), .int .u16 (s.k.p : Int), .int .u16 (s.k.q : Int), .int .u8 (s.k.r : Int), .int .i64 s.v], .agg #[.int .i64 (u.st : Int), .int .u32 (u.k.s : Int), .int .u32 (u.k.d : Int), .int .u16 (u.k.p : Int), .int .u16 (u.k.q : Int), .int .u8 (u.k.r : Int), .int .i64 u.v]] w fun e w' => e = .returned (.int .i64 (cmpH s.k u.k)) ∧ ∃ q os, w' = grow (w.drewN q) os
  have hc := fun W => cmpD s.k u.k W hs hu
  generalize cmpH s.k u.k = C at *
  clear hs hu
  go_enter Try.func34, Try.ntmps34
  go_wp2_with (fail)
  refine (hc _).mono ?_
  rintro e w1 ⟨rfl, hb⟩
  have HB : Hid (Bd w.heap.size w w1) := ((((Bd.refl _ _).alloc (Nat.le_refl _) _).alloc (by simp) _).trans (hb.mono (by simp; omega)))
  clear hb hc
  go_wp2
  go_ret
  exact ⟨rfl, bd_grow HB.out⟩

def Try.sortL_ren : Go.Shelf.Ren := ⟨fun | 6 => 33 | 15 => 38 | 14 => 37 | 28 => 49 | 29 => 50 | 20 => 41 | 21 => 42 | 22 => 43 | 23 => 44 | 24 => 45 | 25 => 46 | 26 => 47 | 27 => 48 | 46 => 54 | 47 => 55 | 48 => 56 | 49 => 57 | 50 => 58 | 57 => 59 | n => n, fun | 22 => 60 | 24 => 72 | 25 => 80 | 3 => 3 | 39 => 82 | 0 => 0 | 53 => 33 | 55 => 81 | 4 => 4 | 46 => 94 | 45 => 93 | 50 => 42 | 5 => 5 | 9 => 9 | 66 => 103 | 70 => 107 | 76 => 109 | 77 => 75 | n => n, fun | n => n⟩
theorem Try.sortL : Go.Proofs.SlLaysF0.n6 Try.prog Try.sortL_ren := {
  mixed := by kernel_rfl
  f6 := ⟨Try.f33.name, by decide, Try.func33.trans (congrArg some (by kernel_rfl))⟩
  f14 := ⟨Try.f37.name, by decide, Try.func37.trans (congrArg some (by kernel_rfl))⟩
  f15 := Try.func38.trans (congrArg some (by kernel_rfl))
  f20 := ⟨Try.f41.name, by decide, Try.func41.trans (congrArg some (by kernel_rfl))⟩
  f21 := ⟨Try.f42.name, by decide, Try.func42.trans (congrArg some (by kernel_rfl))⟩
  f22 := ⟨Try.f43.name, by decide, Try.func43.trans (congrArg some (by kernel_rfl))⟩
  f23 := ⟨Try.f44.name, by decide, Try.func44.trans (congrArg some (by kernel_rfl))⟩
  f24 := ⟨Try.f45.name, by decide, Try.func45.trans (congrArg some (by kernel_rfl))⟩
  f25 := ⟨Try.f46.name, by decide, Try.func46.trans (congrArg some (by kernel_rfl))⟩
  f26 := ⟨Try.f47.name, by decide, Try.func47.trans (congrArg some (by kernel_rfl))⟩
  f27 := ⟨Try.f48.name, by decide, Try.func48.trans (congrArg some (by kernel_rfl))⟩
  f28 := Try.func49.trans (congrArg some (by kernel_rfl))
  f29 := Try.func50.trans (congrArg some (by kernel_rfl))
  f46 := ⟨Try.f54.name, by decide, Try.func54.trans (congrArg some (by kernel_rfl))⟩
  f47 := Try.func55.trans (congrArg some (by kernel_rfl))
  f48 := Try.func56.trans (congrArg some (by kernel_rfl))
  f49 := ⟨Try.f57.name, by decide, Try.func57.trans (congrArg some (by kernel_rfl))⟩
  f50 := ⟨Try.f58.name, by decide, Try.func58.trans (congrArg some (by kernel_rfl))⟩
  f57 := ⟨Try.f59.name, by decide, Try.func59.trans (congrArg some (by kernel_rfl))⟩
  t0 := Try.underlying0
  a0 := Try.isAgg0
  z0 := Try.sizeOf0
  v0 := Try.zeroValue0
  t3 := Try.underlying3
  a3 := Try.isAgg3
  z3 := Try.sizeOf3
  v3 := Try.zeroValue3
  t4 := Try.underlying4
  a4 := Try.isAgg4
  z4 := Try.sizeOf4
  v4 := Try.zeroValue4
  t5 := Try.underlying5
  a5 := Try.isAgg5
  z5 := Try.sizeOf5
  v5 := Try.zeroValue5
  t9 := Try.underlying9
  a9 := Try.isAgg9
  z9 := Try.sizeOf9
  v9 := Try.zeroValue9
  t22 := Try.underlying60
  a22 := Try.isAgg60
  z22 := Try.sizeOf60
  v22 := Try.zeroValue60
  t25 := Try.underlying80
  a25 := Try.isAgg80
  z25 := Try.sizeOf80
  v25 := Try.zeroValue80
  t39 := Try.underlying82
  a39 := Try.isAgg82
  z39 := Try.sizeOf82
  v39 := Try.zeroValue82
  t45 := Try.underlying93
  a45 := Try.isAgg93
  z45 := Try.sizeOf93
  v45 := Try.zeroValue93
  t46 := Try.underlying94
  a46 := Try.isAgg94
  z46 := Try.sizeOf94
  v46 := Try.zeroValue94
  t50 := Try.underlying42
  a50 := Try.isAgg42
  z50 := Try.sizeOf42
  v50 := Try.zeroValue42
  t53 := Try.underlying33
  a53 := Try.isAgg33
  z53 := Try.sizeOf33
  v53 := Try.zeroValue33
  t55 := Try.underlying81
  a55 := Try.isAgg81
  z55 := Try.sizeOf81
  v55 := Try.zeroValue81
  t66 := Try.underlying103
  a66 := Try.isAgg103
  z66 := Try.sizeOf103
  v66 := Try.zeroValue103
  t70 := Try.underlying107
  a70 := Try.isAgg107
  z70 := Try.sizeOf107
  v70 := Try.zeroValue107
  t76 := Try.underlying109
  a76 := Try.isAgg109
  z76 := Try.sizeOf109
  v76 := Try.zeroValue109
  t77 := Try.underlying75
  a77 := Try.isAgg75
  z77 := Try.sizeOf75
  v77 := Try.zeroValue75 }

theorem flatK_L [Inhabited SlO] (l : List SlO) : flatK encQ 7 l.toArray = (flatL (l.map (·.1))).toArray := by
  refine ext_get! (by simp [flatL_length]) fun t ht => ?_
  have ht' : t < l.length * 7 := by simpa using ht
  have hq : t / 7 < l.length := by omega
  rw [get_flatK _ _ _ t (by simpa using ht')]
  have f := flatL_at (l.map (·.1)) (t / 7) (by simpa using hq) (t % 7) (by omega)
  rw [show t / 7 * 7 + t % 7 = t by omega] at f
  have e0 : l.toArray[t / 7]! = l[t / 7] := by simp [getElem!_pos, hq]
  rw [e0]
  have : (flatL (l.map (·.1))).toArray[t]! = ((flatL (l.map (·.1)))[t]?).getD default := by simp
  rw [this, f]
  simp [encQ]
theorem heap_sortL [Inhabited SlO] {w : World} {g n : Nat} {os : Array Obj} {cur : Array Value} {e : TypeId} {fr : Nat × Nat} (d : Array SlO) (hb : w.heap[g]? = some (.cells cur e fr)) :
    (sortWorldK encQ 7 w g 0 n d os).heap[g]? = some (.cells (putCells id 0 (flatK encQ 7 d) cur) e fr) := by
  have hg : g < w.heap.size := (Array.getElem?_eq_some_iff.1 hb).1
  unfold sortWorldK putRowK
  rw [heap_grow_old _ _ (by simpa using hg)]
  simp [putRow, mapBlock, Sort.ahead, Array.getElem?_modify, hb, onCells]
theorem grownBy_sortL [Inhabited SlO] {w : World} {g n : Nat} {os : Array Obj} (d : Array SlO) : w.grownBy (sortWorldK encQ 7 w g 0 n d os) (some g) := by
  unfold sortWorldK putRowK
  refine ⟨rfl, rfl, rfl, by simp, fun k hk hne => ?_⟩
  rw [heap_grow_old _ _ (by simpa using hk)]
  have : g ≠ k := fun e => hne (by rw [e])
  simp [putRow, mapBlock, Sort.ahead, Array.getElem?_modify, this]
theorem take_putL (cur F : Array Value) (h : F.size ≤ cur.size) : (putCells id 0 F cur).toList.take F.size = F.toList := by
  apply List.ext_getElem?
  intro j
  by_cases hj : j < F.size
  · rw [List.getElem?_take_of_lt hj, Array.getElem?_toList]
    simp [putCells, hj, show j < cur.size by omega]
  · rw [List.getElem?_take_eq_none (by omega), List.getElem?_eq_none (by simp; omega)]
theorem laysL [Inhabited SlO] (blk off size : Nat) (w : World) : CmpLays Try.prog 34 #[] encQ 7 cfQ blk off size w :=
  fun m os dk hs x y => (cmpQC x y _).mono fun _ _ ⟨he, q, os', hw⟩ => ⟨he, q, os', hw⟩
theorem sortL [Inhabited SlO] (l : List SlO) (b g n cap : Nat) (w : World) (h : RowL w b (.slice (some ⟨g, 0, none⟩) n cap) (l.map (·.1))) (hl : n ≤ 4294967296) :
    Calls Try.prog 33 #[.slice (some ⟨g, 0, none⟩) n cap, .func (.func 34) #[] #[]] w fun e w' =>
      e = .returned (.tuple #[]) ∧ ∃ d : Array SlO, d.toList.Perm l ∧ (∀ i j, i < j → j < d.size → ¬ val d[j]!.1.k < val d[i]!.1.k) ∧ RowL w' b (.slice (some ⟨g, 0, none⟩) n cap) (d.toList.map (·.1)) ∧ w.grownBy w' (some g) := by
  have eg : ∀ args w, (callFunc 34 args).run Try.prog w = .ok (.enter 34 args) w := enters_of Try.func34 (by kernel_rfl) rfl
  rcases h.2 with ⟨hv, _⟩ | ⟨g', cap', cur, hv, hb, hg, hn, hm, hs, htk⟩
  · cases hv
  have hv' := hv
  injection hv' with e1 e2 e3
  injection e1 with e1
  injection e1 with e1
  subst e1 e2 e3
  rw [List.length_map] at hn hl
  have hH : HoldsK encQ 7 w g 0 l.toArray := by
    unfold HoldsK
    rw [flatK_L]
    intro j hj
    have h0 := h
    clear h hv hn htk
    revert hj h0
    generalize l.map (·.1) = L
    intro hj h0
    have hj' : j < (flatL L).length := by simpa using hj
    have h' : w.ownsRow b 72 7 (.slice (some ⟨g, 0, none⟩) L.length cap) L.length (flatL L) := h0
    rw [Nat.zero_add]
    refine ⟨?_, h'.frozenAt j⟩
    rw [h'.cellAt j (by rw [flatL_length] at hj'; exact hj')]
    simp [List.getElem?_eq_getElem hj', hj']
  have hcon := AnyQ.slices_SortFunc Try.sortL 7 Try.isAgg72 Try.sizeOf72 encQ (fun _ => rfl) (fun x v hv => by simp [encQ, encL] at hv; rcases hv with rfl | rfl | rfl | rfl | rfl | rfl | rfl <;> rfl) cfQ swoQ 34 #[] g 0 cap l.toArray w eg (laysL g 0 _ w) hH (Array.getElem?_eq_some_iff.1 hg).1 (by simp; omega)
  change Calls Try.prog 33 _ _ _ at hcon
  simp only [List.size_toArray] at hcon
  rw [List.length_map]
  refine hcon.mono ?_
  rintro e w' ⟨he, d', q, os, hp, hso, rfl⟩
  have hsz : d'.size = l.length := by simpa using hp.1
  refine ⟨he, d', ?_, fun i j hij hj => ?_, ?_, grownBy_sortL d'⟩
  · have h3 := hp.2.2
    have e1 : (d'.extract 0 l.length) = d' := by rw [← hsz]; simp
    have e2 : (l.toArray.extract 0 l.length) = l.toArray := by simp
    rw [e1, e2] at h3
    exact h3
  · have := hso i j (Nat.zero_le _) hij (by omega)
    rwa [lt_cfQ'] at this
  · have e1 : flatK encQ 7 d' = (flatL (d'.toList.map (·.1))).toArray := by
      have := flatK_L d'.toList
      simpa using this
    refine ⟨flatL_length _, .inr ⟨g, cap, _, by simp [hsz], hb, heap_sortL d' hg, by simp; omega, hm, by simp [putCells, hs], ?_⟩⟩
    have := take_putL cur (flatK encQ 7 d') (by simp; omega)
    rw [size_flatK] at this
    rw [List.length_map, Array.length_toList, this, e1]
end Go.Proofs.Ythfjdoenofkghaa
