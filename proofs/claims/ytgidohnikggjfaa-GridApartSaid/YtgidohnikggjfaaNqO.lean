/-
  slices.SortFunc of rows of spans and of prefixes; nest's inOrder and unlike. Written by tools/mkNsO.py.
-/
import Derived.Shelf.SlSortCmp.WholeK
import Derived.Test.YtgidohnikggjfaaNsD
import Derived.Test.YtgidohnikggjfaaNsPm
import Derived.Test.YtgidohnikggjfaaPxC
namespace Go.Proofs.Ytgidohnikggjfaa
open Go.RowKit Go.Shelf Go.Sort Go.Lib
set_option linter.unusedVariables false
set_option linter.unusedSimpArgs false

/-- What is left of a sorted row: the same members, each once, rising. -/
theorem comp_sorted {lt : Nat × Nat → Nat × Nat → Prop} (irr : ∀ a, ¬ lt a a) (tr : ∀ a b c, lt a b → lt b c → lt a c) (tot : ∀ a b, ¬ lt a b → a ≠ b → lt b a) (d : Array (Nat × Nat)) (hs : ∀ i j, i < j → j < d.size → ¬ lt d[j]! d[i]!) :
    ∀ m, m ≤ d.size → (∀ x, x ∈ compactUpTo d m ↔ ∃ j, j < m ∧ d[j]! = x) ∧ (compactUpTo d m).Pairwise lt := by
  intro m
  induction m with
  | zero => intro _; simp [compactUpTo]
  | succ m ih =>
    intro hm
    obtain ⟨h1, h2⟩ := ih (by omega)
    rw [compactUpTo_succ]
    cases hk : keeps d m with
    | false =>
      have hm0 : 0 < m := by
        rcases Nat.eq_zero_or_pos m with e | e
        · subst e; rw [keeps_lt_one d 0 (by omega)] at hk; cases hk
        · exact e
      have he : d[m]! = d[m - 1]! := by
        by_cases e : d[m]! = d[m - 1]!
        · exact e
        · rw [keeps_pos e] at hk; cases hk
      simp only [Bool.false_eq_true, if_false, List.append_nil]
      refine ⟨fun x => (h1 x).trans ⟨fun ⟨j, hj, e⟩ => ⟨j, by omega, e⟩, fun ⟨j, hj, e⟩ => ?_⟩, h2⟩
      by_cases ej : j = m
      · subst ej; exact ⟨j - 1, by omega, by rw [← he]; exact e⟩
      · exact ⟨j, by omega, e⟩
    | true =>
      simp only [if_true]
      refine ⟨fun x => ?_, List.pairwise_append.2 ⟨h2, by simp, fun a ha b hb => ?_⟩⟩
      · rw [List.mem_append, h1, List.mem_singleton]
        constructor
        · rintro (⟨j, hj, e⟩ | e)
          · exact ⟨j, by omega, e⟩
          · exact ⟨m, by omega, e.symm⟩
        · rintro ⟨j, hj, e⟩
          by_cases ej : j = m
          · subst ej; exact .inr e.symm
          · exact .inl ⟨j, by omega, e⟩
      · rw [List.mem_singleton] at hb
        subst hb
        obtain ⟨j, hj, rfl⟩ := (h1 a).1 ha
        have hmj := hs j m hj (by omega)
        refine tot _ _ hmj fun e => ?_
        have hd : d[m]! ≠ d[m - 1]! := by
          intro e'
          rw [keeps_neg (by omega) e'] at hk; cases hk
        have q1 : ¬ lt d[m]! d[m - 1]! := hs (m - 1) m (by omega) (by omega)
        have q2 := tot _ _ q1 hd
        by_cases ej : j = m - 1
        · subst ej; exact hd e
        · have q3 : ¬ lt d[m - 1]! d[j]! := hs j (m - 1) (by omega) (by omega)
          rw [← e] at q3
          exact q3 q2
theorem comp_perm {lt : Nat × Nat → Nat × Nat → Prop} (irr : ∀ a, ¬ lt a a) (tr : ∀ a b c, lt a b → lt b c → lt a c) (tot : ∀ a b, ¬ lt a b → a ≠ b → lt b a) {d : Array (Nat × Nat)} {l : List (Nat × Nat)} (hp : d.toList.Perm l) (hs : ∀ i j, i < j → j < d.size → ¬ lt d[j]! d[i]!) :
    (∀ x, x ∈ compactUpTo d d.size ↔ x ∈ l) ∧ (compactUpTo d d.size).Pairwise lt := by
  obtain ⟨h1, h2⟩ := comp_sorted irr tr tot d hs d.size (Nat.le_refl _)
  refine ⟨fun x => (h1 x).trans ⟨fun ⟨j, hj, e⟩ => hp.mem_iff.1 ?_, fun hx => ?_⟩, h2⟩
  · rw [← e, getElem!_pos d j hj, ← Array.getElem_toList]; exact List.getElem_mem _
  · obtain ⟨j, hj, e⟩ := List.mem_iff_getElem.1 (hp.mem_iff.2 hx)
    exact ⟨j, by simpa using hj, by rw [← toL hj]; exact e⟩

def ltX (a b : Nat × Nat) : Prop := a.1 < b.1 ∨ (a.1 = b.1 ∧ a.2 < b.2)
def cfS (x y : Nat × Nat) : Int := Pf.orI (Pf.cmpI (x.1 : Int) (y.1 : Int)) (Pf.cmpI (y.2 : Int) (x.2 : Int))
def cfX (x y : Nat × Nat) : Int := Pf.orI (Pf.cmpI (x.1 : Int) (y.1 : Int)) (Pf.cmpI (x.2 : Int) (y.2 : Int))
theorem lt_cfS (x y : Nat × Nat) : ltOf cfS x y = true ↔ ahd x y := by
  unfold ltOf cfS Pf.orI Pf.cmpI ahd
  rw [decide_eq_true_iff]
  repeat' split
  all_goals (try omega)
theorem lt_cfX (x y : Nat × Nat) : ltOf cfX x y = true ↔ ltX x y := by
  unfold ltOf cfX Pf.orI Pf.cmpI ltX
  rw [decide_eq_true_iff]
  repeat' split
  all_goals (try omega)
theorem lt_cfS' (x y : Nat × Nat) : ltOf cfS x y = false ↔ ¬ ahd x y := by rw [← lt_cfS]; simp
theorem lt_cfX' (x y : Nat × Nat) : ltOf cfX x y = false ↔ ¬ ltX x y := by rw [← lt_cfX]; simp
theorem swoS : SWO (ltOf cfS) := {
  irrefl := fun x => by rw [lt_cfS']; unfold ahd; omega
  trans := fun x y z h1 h2 => by rw [lt_cfS] at *; unfold ahd at *; omega
  ntrans := fun x y z h1 h2 => by rw [lt_cfS'] at *; unfold ahd at *; omega }
theorem swoX : SWO (ltOf cfX) := {
  irrefl := fun x => by rw [lt_cfX']; unfold ltX; omega
  trans := fun x y z h1 h2 => by rw [lt_cfX] at *; unfold ltX at *; omega
  ntrans := fun x y z h1 h2 => by rw [lt_cfX'] at *; unfold ltX at *; omega }
theorem grow3 (w : World) (a b c : Obj) : ((w.alloc a).alloc b).drew.alloc c = grow (w.drewN 1) ((#[a] ++ #[b]) ++ #[c]) := by
  rw [alloc_eq_grow, alloc_eq_grow, alloc_eq_grow, grow_grow, drew_grow, grow_grow]; rfl
set_option maxHeartbeats 1000000 in
theorem cmpXC (x y : Nat × Nat) (w : World) :
    Calls Try.prog 78 #[.agg #[.int .u32 (x.1), .int .i64 (x.2)], .agg #[.int .u32 (y.1), .int .i64 (y.2)]] w fun e w' => e = .returned (.int .i64 (cfX x y)) ∧ ∃ q os, w' = grow (w.drewN q) os := by
  obtain ⟨a, n⟩ := x
  obtain ⟨b, m⟩ := y
  show Calls Try.prog 78 #[.agg #[.int .u32 a, .int .i64 n], .agg #[.int .u32 b, .int .i64 m]] w _
  go_enter Try.func78, Try.ntmps78
  go_wp2
  go_region_held3 (fun w' => w'.cell? ⟨w.heap.size, 0, none⟩ = some (.int .u32 a) ∧ w'.cell? ⟨w.heap.size, 1, none⟩ = some (.int .i64 n) ∧ w'.cell? ⟨w.heap.size + 1, 0, none⟩ = some (.int .u32 b) ∧ w'.cell? ⟨w.heap.size + 1, 1, none⟩ = some (.int .i64 m)) (go_keep) (first | (go_at_call 83; refine (Pf.cmp32_any _ _ _).mono ?_; rintro e w' ⟨rfl, hw⟩; obtain rfl := hw.symm; clear hw) | (go_at_call 84; refine (Pf.cmp_any _ _ _).mono ?_; rintro e w' ⟨rfl, hw⟩; obtain rfl := hw.symm; clear hw) | (go_at_call 82; refine (Pf.or_any (Pf.cmpI a b) (Pf.cmpI n m) _ _ ?_ ?_).mono ?_; (simp [go_sem]); (simp [go_sem]); rintro e w' ⟨rfl, hw⟩; obtain rfl := hw.symm; clear hw))
  go_wp2
  go_ret
  exact ⟨rfl, 1, _, grow3 w _ _ _⟩

def Try.sortX_ren : Go.Shelf.Ren := ⟨fun | 6 => 77 | 15 => 81 | 14 => 80 | 28 => 93 | 29 => 94 | 20 => 85 | 21 => 86 | 22 => 87 | 23 => 88 | 24 => 89 | 25 => 90 | 26 => 91 | 27 => 92 | 46 => 97 | 47 => 98 | 48 => 99 | 49 => 100 | 50 => 101 | 57 => 102 | n => n, fun | 22 => 110 | 24 => 39 | 25 => 139 | 3 => 3 | 39 => 142 | 0 => 0 | 53 => 37 | 55 => 155 | 4 => 4 | 46 => 147 | 45 => 146 | 50 => 151 | 5 => 5 | 9 => 9 | 66 => 157 | 70 => 161 | 76 => 163 | 77 => 164 | n => n, fun | n => n⟩
theorem Try.sortX : Go.Proofs.SlLaysF0.n6 Try.prog Try.sortX_ren := {
  mixed := by kernel_rfl
  f6 := ⟨Try.f77.name, by decide, Try.func77.trans (congrArg some (by kernel_rfl))⟩
  f14 := ⟨Try.f80.name, by decide, Try.func80.trans (congrArg some (by kernel_rfl))⟩
  f15 := Try.func81.trans (congrArg some (by kernel_rfl))
  f20 := ⟨Try.f85.name, by decide, Try.func85.trans (congrArg some (by kernel_rfl))⟩
  f21 := ⟨Try.f86.name, by decide, Try.func86.trans (congrArg some (by kernel_rfl))⟩
  f22 := ⟨Try.f87.name, by decide, Try.func87.trans (congrArg some (by kernel_rfl))⟩
  f23 := ⟨Try.f88.name, by decide, Try.func88.trans (congrArg some (by kernel_rfl))⟩
  f24 := ⟨Try.f89.name, by decide, Try.func89.trans (congrArg some (by kernel_rfl))⟩
  f25 := ⟨Try.f90.name, by decide, Try.func90.trans (congrArg some (by kernel_rfl))⟩
  f26 := ⟨Try.f91.name, by decide, Try.func91.trans (congrArg some (by kernel_rfl))⟩
  f27 := ⟨Try.f92.name, by decide, Try.func92.trans (congrArg some (by kernel_rfl))⟩
  f28 := Try.func93.trans (congrArg some (by kernel_rfl))
  f29 := Try.func94.trans (congrArg some (by kernel_rfl))
  f46 := ⟨Try.f97.name, by decide, Try.func97.trans (congrArg some (by kernel_rfl))⟩
  f47 := Try.func98.trans (congrArg some (by kernel_rfl))
  f48 := Try.func99.trans (congrArg some (by kernel_rfl))
  f49 := ⟨Try.f100.name, by decide, Try.func100.trans (congrArg some (by kernel_rfl))⟩
  f50 := ⟨Try.f101.name, by decide, Try.func101.trans (congrArg some (by kernel_rfl))⟩
  f57 := ⟨Try.f102.name, by decide, Try.func102.trans (congrArg some (by kernel_rfl))⟩
  t0 := Try.underlying0
  a0 := Try.isAgg0
  z0 := Try.sizeOf0
  v0 := Try.zeroValue0
  t3 := Try.underlying3
  a3 := Try.isAgg3
  z3 := Try.sizeOf3
  v3 := Try.zeroValue3
  t4 := Try.underlying4
  a4 := Try.isAgg4
  z4 := Try.sizeOf4
  v4 := Try.zeroValue4
  t5 := Try.underlying5
  a5 := Try.isAgg5
  z5 := Try.sizeOf5
  v5 := Try.zeroValue5
  t9 := Try.underlying9
  a9 := Try.isAgg9
  z9 := Try.sizeOf9
  v9 := Try.zeroValue9
  t22 := Try.underlying110
  a22 := Try.isAgg110
  z22 := Try.sizeOf110
  v22 := Try.zeroValue110
  t25 := Try.underlying139
  a25 := Try.isAgg139
  z25 := Try.sizeOf139
  v25 := Try.zeroValue139
  t39 := Try.underlying142
  a39 := Try.isAgg142
  z39 := Try.sizeOf142
  v39 := Try.zeroValue142
  t45 := Try.underlying146
  a45 := Try.isAgg146
  z45 := Try.sizeOf146
  v45 := Try.zeroValue146
  t46 := Try.underlying147
  a46 := Try.isAgg147
  z46 := Try.sizeOf147
  v46 := Try.zeroValue147
  t50 := Try.underlying151
  a50 := Try.isAgg151
  z50 := Try.sizeOf151
  v50 := Try.zeroValue151
  t53 := Try.underlying37
  a53 := Try.isAgg37
  z53 := Try.sizeOf37
  v53 := Try.zeroValue37
  t55 := Try.underlying155
  a55 := Try.isAgg155
  z55 := Try.sizeOf155
  v55 := Try.zeroValue155
  t66 := Try.underlying157
  a66 := Try.isAgg157
  z66 := Try.sizeOf157
  v66 := Try.zeroValue157
  t70 := Try.underlying161
  a70 := Try.isAgg161
  z70 := Try.sizeOf161
  v70 := Try.zeroValue161
  t76 := Try.underlying163
  a76 := Try.isAgg163
  z76 := Try.sizeOf163
  v76 := Try.zeroValue163
  t77 := Try.underlying164
  a77 := Try.isAgg164
  z77 := Try.sizeOf164
  v77 := Try.zeroValue164 }

theorem flatK_X (l : List (Nat × Nat)) : flatK encX 2 l.toArray = (flatX l).toArray := by
  refine ext_get! (by simp [flatX_length]) fun t ht => ?_
  have ht' : t < l.length * 2 := by simpa using ht
  have hq : t / 2 < l.length := by omega
  rw [get_flatK _ _ _ t (by simpa using ht')]
  have f := flatX_at l (t / 2) hq (t % 2) (by omega)
  rw [show t / 2 * 2 + t % 2 = t by omega] at f
  have e0 : l.toArray[t / 2]! = l[t / 2] := by simp [getElem!_pos, hq]
  rw [e0]
  have : (flatX l).toArray[t]! = ((flatX l)[t]?).getD default := by simp
  rw [this, f]
  simp
theorem heap_sortX {w : World} {g n : Nat} {os : Array Obj} {cur : Array Value} {e : TypeId} {fr : Nat × Nat} (d : Array (Nat × Nat)) (hb : w.heap[g]? = some (.cells cur e fr)) :
    (sortWorldK encX 2 w g 0 n d os).heap[g]? = some (.cells (putCells id 0 (flatK encX 2 d) cur) e fr) := by
  have hg : g < w.heap.size := (Array.getElem?_eq_some_iff.1 hb).1
  unfold sortWorldK putRowK
  rw [heap_grow_old _ _ (by simpa using hg)]
  simp [putRow, mapBlock, Sort.ahead, Array.getElem?_modify, hb, onCells]
theorem grownBy_sortX {w : World} {g n : Nat} {os : Array Obj} (d : Array (Nat × Nat)) : w.grownBy (sortWorldK encX 2 w g 0 n d os) (some g) := by
  unfold sortWorldK putRowK
  refine ⟨rfl, rfl, rfl, by simp, fun k hk hne => ?_⟩
  rw [heap_grow_old _ _ (by simpa using hk)]
  have : g ≠ k := fun e => hne (by rw [e])
  simp [putRow, mapBlock, Sort.ahead, Array.getElem?_modify, this]
theorem take_putX (cur F : Array Value) (h : F.size ≤ cur.size) : (putCells id 0 F cur).toList.take F.size = F.toList := by
  apply List.ext_getElem?
  intro j
  by_cases hj : j < F.size
  · rw [List.getElem?_take_of_lt hj, Array.getElem?_toList]
    simp [putCells, hj, show j < cur.size by omega]
  · rw [List.getElem?_take_eq_none (by omega), List.getElem?_eq_none (by simp; omega)]
theorem laysX (blk off size : Nat) (w : World) : CmpLays Try.prog 78 #[] encX 2 cfX blk off size w :=
  fun m os dk hs x y => (cmpXC x y _).mono fun _ _ ⟨he, q, os', hw⟩ => ⟨he, q, os', hw⟩
theorem sortX (l : List (Nat × Nat)) (b g n cap : Nat) (w : World) (h : RowX w b (.slice (some ⟨g, 0, none⟩) n cap) l) (hl : n ≤ 4294967296) :
    Calls Try.prog 77 #[.slice (some ⟨g, 0, none⟩) n cap, .func (.func 78) #[] #[]] w fun e w' =>
      e = .returned (.tuple #[]) ∧ ∃ d : Array (Nat × Nat), d.toList.Perm l ∧ (∀ i j, i < j → j < d.size → ¬ ltX d[j]! d[i]!) ∧ RowX w' b (.slice (some ⟨g, 0, none⟩) n cap) d.toList ∧ w.grownBy w' (some g) := by
  have eg : ∀ args w, (callFunc 78 args).run Try.prog w = .ok (.enter 78 args) w := enters_of Try.func78 (by kernel_rfl) rfl
  rcases h.2 with ⟨hv, _⟩ | ⟨g', cap', cur, hv, hb, hg, hn, hm, hs, htk⟩
  · cases hv
  have hv' := hv
  injection hv' with e1 e2 e3
  injection e1 with e1
  injection e1 with e1
  subst e1 e2 e3
  have hH : HoldsK encX 2 w g 0 l.toArray := by
    unfold HoldsK
    rw [flatK_X]
    intro j hj
    have hj' : j < (flatX l).length := by simpa using hj
    have h' : w.ownsRow b 39 2 (.slice (some ⟨g, 0, none⟩) l.length cap) l.length (flatX l) := h
    rw [Nat.zero_add]
    refine ⟨?_, h'.frozenAt j⟩
    rw [h'.cellAt j (by rw [flatX_length] at hj'; exact hj')]
    simp [List.getElem?_eq_getElem hj', hj']
  have hcon := AnyQ.slices_SortFunc Try.sortX 2 Try.isAgg39 Try.sizeOf39 encX (fun _ => rfl) (fun x v hv => by simp [encX] at hv; rcases hv with rfl | rfl <;> rfl) cfX swoX 78 #[] g 0 cap l.toArray w eg (laysX g 0 _ w) hH (Array.getElem?_eq_some_iff.1 hg).1 (by simp; omega)
  change Calls Try.prog 77 _ _ _ at hcon
  simp only [List.size_toArray] at hcon
  refine hcon.mono ?_
  rintro e w' ⟨he, d', q, os, hp, hso, rfl⟩
  have hsz : d'.size = l.length := by simpa using hp.1
  refine ⟨he, d', ?_, fun i j hij hj => ?_, ?_, grownBy_sortX d'⟩
  · have h3 := hp.2.2
    have e1 : (d'.extract 0 l.length) = d' := by rw [← hsz]; simp
    have e2 : (l.toArray.extract 0 l.length) = l.toArray := by simp
    rw [e1, e2] at h3
    exact h3
  · have := hso i j (Nat.zero_le _) hij (by omega)
    rwa [lt_cfX'] at this
  · have e1 : flatK encX 2 d' = (flatX d'.toList).toArray := by
      have := flatK_X d'.toList
      simpa using this
    refine ⟨flatX_length _, .inr ⟨g, cap, _, by simp [hsz], hb, heap_sortX d' hg, by simp; omega, hm, by simp [putCells, hs], ?_⟩⟩
    have := take_putX cur (flatK encX 2 d') (by simp; omega)
    rw [size_flatK] at this
    rw [Array.length_toList, this, e1]
set_option maxHeartbeats 2000000 in
theorem ins0X (fv : Value) (w : World) : Calls Try.prog 85 #[.slice none 0 0, .int .i64 0, .int .i64 0, fv] w fun e w' => e = .returned (.tuple #[]) ∧ w' = w := by
  go_enter Try.func85, Try.ntmps85
  go_wp2
  refine wp_loop_rounds 1 ?_
  rw [rounds_succ]
  go_wp2
  go_end0
  exact ⟨rfl, rfl⟩
set_option maxHeartbeats 2000000 in
theorem pdq0X (lim : Int) (fv : Value) (w : World) : Calls Try.prog 80 #[.slice none 0 0, .int .i64 0, .int .i64 0, .int .i64 lim, fv] w fun e w' => e = .returned (.tuple #[]) ∧ w' = w := by
  go_enter Try.func80, Try.ntmps80
  go_wp2
  refine wp_loop_rounds 1 ?_
  rw [rounds_succ]
  go_wp2_with (go_at_call 85; refine (ins0X _ _).mono ?_; rintro e w' ⟨rfl, rfl⟩)
  (try simp only [Exit.inBlock, Exit.then]); refine bodyPost_ret (results_none rfl _ _ _) rfl ?_
  exact ⟨rfl, rfl⟩
set_option maxHeartbeats 2000000 in
theorem sort0X (w : World) : Calls Try.prog 77 #[.slice none 0 0, .func (.func 78) #[] #[]] w fun e w' => e = .returned (.tuple #[]) ∧ Below w.heap.size w w' := by
  have hl : ∀ W, Calls Try.prog 81 #[.int .u64 0] W fun e w' => ∃ n : Int, e = .returned (.int .i64 n) ∧ w' = W := fun W => by
    go_enter Try.func81, Try.ntmps81
    go_wp2
    go_ret
    exact ⟨_, rfl, rfl⟩
  go_enter Try.func77, Try.ntmps77
  go_wp2_with (first | (go_at_call 81; refine (hl _).mono ?_; rintro e w' ⟨n0, rfl, rfl⟩) | (go_at_call 80; refine (pdq0X _ _ _).mono ?_; rintro e w' ⟨rfl, rfl⟩))
  go_end0
  exact ⟨rfl, Below.refl _ _⟩
set_option maxHeartbeats 1000000 in
theorem comp0X (w : World) : Calls Try.prog 79 #[.slice none 0 0] w fun e w' => e = .returned (.slice none 0 0) ∧ w' = w := by
  go_enter Try.func79, Try.ntmps79
  go_wp2
  go_ret
  exact ⟨rfl, rfl⟩
set_option maxHeartbeats 1000000 in
/-- Cloned, sorted, compacted. -/
theorem unlX (l : List (Nat × Nat)) (v : Value) (w : World) (h : SrcX w v l) (hl : l.length ≤ 4294967296) :
    Calls Try.prog 65 #[v] w fun e w' => ∃ (v' : Value) (u : List (Nat × Nat)), e = .returned v' ∧ (∀ x, x ∈ u ↔ x ∈ l) ∧ u.Pairwise ltX ∧ RowX w' w.heap.size v' u ∧ Below w.heap.size w w' := by
  have hC := cloneX l v w h hl
  clear h
  go_enter Try.func65, Try.ntmps65
  go_wp2_with (fail)
  refine hC.mono ?_
  rintro e w1 ⟨v1, rfl, hr1, hb1⟩
  rcases hr1.2 with ⟨hv, h0⟩ | ⟨g, cap, cur, hv, hb, hg, r⟩
  · have hnil : l = [] := List.eq_nil_of_length_eq_zero h0
    subst hv hnil
    have hs0 : Calls Try.prog 77 #[.slice none 0 0, .func (.func 78) #[] #[]] w1 fun e w' => e = .returned (.tuple #[]) ∧ Below w1.heap.size w1 w' := sort0X w1
    clear hr1 hC
    have HB1 : Hid (Below w.heap.size w w1) := hb1
    clear hb1
    go_wp2_with (fail)
    refine hs0.mono ?_
    rintro e w2 ⟨rfl, hb2⟩
    have HB2 : Hid (Below w.heap.size w w2) := bel_of HB1.out hb2 HB1.out.size
    clear hb2
    go_wp2_with (fail)
    refine (comp0X w2).mono ?_
    rintro e w3 ⟨rfl, hw3⟩
    obtain rfl := hw3.symm
    clear hw3
    go_wp2
    go_ret
    exact ⟨_, [], rfl, fun x => Iff.rfl, List.Pairwise.nil, World.ownsRow_nil _ _ _ _, HB2.out⟩
  · subst hv
    obtain ⟨n, hn⟩ : ∃ n, n = l.length := ⟨_, rfl⟩
    rw [← hn] at hr1 hl ⊢
    have hS := sortX l w.heap.size g n cap w1 hr1 hl
    have HB1 : Hid (Below w.heap.size w w1) := hb1
    clear hb1 r hg hr1 hC
    have hgl : w.heap.size ≤ g := hb
    clear hb hn
    go_wp2_with (fail)
    refine hS.mono ?_
    rintro e w2 ⟨rfl, d, hp, hsd, hr2, hg2⟩
    have hC2 := compX d w.heap.size g n cap w2 hr2 hl
    have HU : Hid _ := comp_perm (lt := ltX) (fun a h => by unfold ltX at h; omega) (fun a b c h g => by unfold ltX at *; omega) (fun a b h hn => by have : ¬ (a.1 = b.1 ∧ a.2 = b.2) := fun e => hn (Prod.ext e.1 e.2); unfold ltX at *; omega) hp hsd
    have HB2 : Hid (Below w.heap.size w w2) := HB1.out.grown hg2 HB1.out.size (fun k hk => by injection hk with e; omega)
    clear hr2 hg2 hS HB1 hp hsd
    go_wp2_with (fail)
    refine hC2.mono ?_
    rintro e w3 ⟨n', rfl, hr3, hg3⟩
    have HB3 : Hid (Below w.heap.size w w3) := HB2.out.grown hg3 HB2.out.size (fun k hk => by injection hk with e; omega)
    have HR3 : Hid (RowX w3 w.heap.size (.slice (some ⟨g, 0, none⟩) n' cap) (compactUpTo d d.size)) := hr3
    clear hr3 hg3 hC2
    go_wp2
    go_ret
    exact ⟨_, _, rfl, HU.out.1, HU.out.2, HR3.out, HB3.out⟩
end Go.Proofs.Ytgidohnikggjfaa
