/-
  slices.SortFunc of rows of spans and of prefixes; nest's inOrder and unlike. Written by tools/mkNsO.py.
-/
import Derived.Shelf.SlSortCmp.WholeK
import Derived.Test.YtgidohnikggjfaaGreatNsD
import Derived.Test.YtgidohnikggjfaaGreatNsPm
import Derived.Test.YtgidohnikggjfaaGreatPxC
namespace Go.Proofs.YtgidohnikggjfaaGreat
open Go.RowKit Go.Shelf Go.Sort Go.Lib
set_option linter.unusedVariables false
set_option linter.unusedSimpArgs false

/-- What is left of a sorted row: the same members, each once, rising. -/
theorem comp_sorted {lt : Nat × Nat → Nat × Nat → Prop} (irr : ∀ a, ¬ lt a a) (tr : ∀ a b c, lt a b → lt b c → lt a c) (tot : ∀ a b, ¬ lt a b → a ≠ b → lt b a) (d : Array (Nat × Nat)) (hs : ∀ i j, i < j → j < d.size → ¬ lt d[j]! d[i]!) :
    ∀ m, m ≤ d.size → (∀ x, x ∈ compactUpTo d m ↔ ∃ j, j < m ∧ d[j]! = x) ∧ (compactUpTo d m).Pairwise lt := by
  intro m
  induction m with
  | zero => intro _; simp [compactUpTo]
  | succ m ih =>
    intro hm
    obtain ⟨h1, h2⟩ := ih (by omega)
    rw [compactUpTo_succ]
    cases hk : keeps d m with
    | false =>
      have hm0 : 0 < m := by
        rcases Nat.eq_zero_or_pos m with e | e
        · subst e; rw [keeps_lt_one d 0 (by omega)] at hk; cases hk
        · exact e
      have he : d[m]! = d[m - 1]! := by
        by_cases e : d[m]! = d[m - 1]!
        · exact e
        · rw [keeps_pos e] at hk; cases hk
      simp only [Bool.false_eq_true, if_false, List.append_nil]
      refine ⟨fun x => (h1 x).trans ⟨fun ⟨j, hj, e⟩ => ⟨j, by omega, e⟩, fun ⟨j, hj, e⟩ => ?_⟩, h2⟩
      by_cases ej : j = m
      · subst ej; exact ⟨j - 1, by omega, by rw [← he]; exact e⟩
      · exact ⟨j, by omega, e⟩
    | true =>
      simp only [if_true]
      refine ⟨fun x => ?_, List.pairwise_append.2 ⟨h2, by simp, fun a ha b hb => ?_⟩⟩
      · rw [List.mem_append, h1, List.mem_singleton]
        constructor
        · rintro (⟨j, hj, e⟩ | e)
          · exact ⟨j, by omega, e⟩
          · exact ⟨m, by omega, e.symm⟩
        · rintro ⟨j, hj, e⟩
          by_cases ej : j = m
          · subst ej; exact .inr e.symm
          · exact .inl ⟨j, by omega, e⟩
      · rw [List.mem_singleton] at hb
        subst hb
        obtain ⟨j, hj, rfl⟩ := (h1 a).1 ha
        have hmj := hs j m hj (by omega)
        refine tot _ _ hmj fun e => ?_
        have hd : d[m]! ≠ d[m - 1]! := by
          intro e'
          rw [keeps_neg (by omega) e'] at hk; cases hk
        have q1 : ¬ lt d[m]! d[m - 1]! := hs (m - 1) m (by omega) (by omega)
        have q2 := tot _ _ q1 hd
        by_cases ej : j = m - 1
        · subst ej; exact hd e
        · have q3 : ¬ lt d[m - 1]! d[j]! := hs j (m - 1) (by omega) (by omega)
          rw [← e] at q3
          exact q3 q2
theorem comp_perm {lt : Nat × Nat → Nat × Nat → Prop} (irr : ∀ a, ¬ lt a a) (tr : ∀ a b c, lt a b → lt b c → lt a c) (tot : ∀ a b, ¬ lt a b → a ≠ b → lt b a) {d : Array (Nat × Nat)} {l : List (Nat × Nat)} (hp : d.toList.Perm l) (hs : ∀ i j, i < j → j < d.size → ¬ lt d[j]! d[i]!) :
    (∀ x, x ∈ compactUpTo d d.size ↔ x ∈ l) ∧ (compactUpTo d d.size).Pairwise lt := by
  obtain ⟨h1, h2⟩ := comp_sorted irr tr tot d hs d.size (Nat.le_refl _)
  refine ⟨fun x => (h1 x).trans ⟨fun ⟨j, hj, e⟩ => hp.mem_iff.1 ?_, fun hx => ?_⟩, h2⟩
  · rw [← e, getElem!_pos d j hj, ← Array.getElem_toList]; exact List.getElem_mem _
  · obtain ⟨j, hj, e⟩ := List.mem_iff_getElem.1 (hp.mem_iff.2 hx)
    exact ⟨j, by simpa using hj, by rw [← toL hj]; exact e⟩

def ltX (a b : Nat × Nat) : Prop := a.1 < b.1 ∨ (a.1 = b.1 ∧ a.2 < b.2)
def cfS (x y : Nat × Nat) : Int := Pf.orI (Pf.cmpI (x.1 : Int) (y.1 : Int)) (Pf.cmpI (y.2 : Int) (x.2 : Int))
def cfX (x y : Nat × Nat) : Int := Pf.orI (Pf.cmpI (x.1 : Int) (y.1 : Int)) (Pf.cmpI (x.2 : Int) (y.2 : Int))
theorem lt_cfS (x y : Nat × Nat) : ltOf cfS x y = true ↔ ahd x y := by
  unfold ltOf cfS Pf.orI Pf.cmpI ahd
  rw [decide_eq_true_iff]
  repeat' split
  all_goals (try omega)
theorem lt_cfX (x y : Nat × Nat) : ltOf cfX x y = true ↔ ltX x y := by
  unfold ltOf cfX Pf.orI Pf.cmpI ltX
  rw [decide_eq_true_iff]
  repeat' split
  all_goals (try omega)
theorem lt_cfS' (x y : Nat × Nat) : ltOf cfS x y = false ↔ ¬ ahd x y := by rw [← lt_cfS]; simp
theorem lt_cfX' (x y : Nat × Nat) : ltOf cfX x y = false ↔ ¬ ltX x y := by rw [← lt_cfX]; simp
theorem swoS : SWO (ltOf cfS) := {
  irrefl := fun x => by rw [lt_cfS']; unfold ahd; omega
  trans := fun x y z h1 h2 => by rw [lt_cfS] at *; unfold ahd at *; omega
  ntrans := fun x y z h1 h2 => by rw [lt_cfS'] at *; unfold ahd at *; omega }
theorem swoX : SWO (ltOf cfX) := {
  irrefl := fun x => by rw [lt_cfX']; unfold ltX; omega
  trans := fun x y z h1 h2 => by rw [lt_cfX] at *; unfold ltX at *; omega
  ntrans := fun x y z h1 h2 => by rw [lt_cfX'] at *; unfold ltX at *; omega }
theorem grow3 (w : World) (a b c : Obj) : ((w.alloc a).alloc b).drew.alloc c = grow (w.drewN 1) ((#[a] ++ #[b]) ++ #[c]) := by
  rw [alloc_eq_grow, alloc_eq_grow, alloc_eq_grow, grow_grow, drew_grow, grow_grow]; rfl
set_option maxHeartbeats 1000000 in
theorem cmpXC (x y : Nat × Nat) (w : World) :
    Calls Tryz.prog 100 #[.agg #[.int .u32 (x.1), .int .i64 (x.2)], .agg #[.int .u32 (y.1), .int .i64 (y.2)]] w fun e w' => e = .returned (.int .i64 (cfX x y)) ∧ ∃ q os, w' = grow (w.drewN q) os := by
  obtain ⟨a, n⟩ := x
  obtain ⟨b, m⟩ := y
  show Calls Tryz.prog 100 #[.agg #[.int .u32 a, .int .i64 n], .agg #[.int .u32 b, .int .i64 m]] w _
  go_enter Tryz.func100, Tryz.ntmps100
  go_wp2
  go_region_held3 (fun w' => w'.cell? ⟨w.heap.size, 0, none⟩ = some (.int .u32 a) ∧ w'.cell? ⟨w.heap.size, 1, none⟩ = some (.int .i64 n) ∧ w'.cell? ⟨w.heap.size + 1, 0, none⟩ = some (.int .u32 b) ∧ w'.cell? ⟨w.heap.size + 1, 1, none⟩ = some (.int .i64 m)) (go_keep) (first | (go_at_call 110; refine (Pf.cmp32_any _ _ _).mono ?_; rintro e w' ⟨rfl, hw⟩; obtain rfl := hw.symm; clear hw) | (go_at_call 111; refine (Pf.cmp_any _ _ _).mono ?_; rintro e w' ⟨rfl, hw⟩; obtain rfl := hw.symm; clear hw) | (go_at_call 109; refine (Pf.or_any (Pf.cmpI a b) (Pf.cmpI n m) _ _ ?_ ?_).mono ?_; (simp [go_sem]); (simp [go_sem]); rintro e w' ⟨rfl, hw⟩; obtain rfl := hw.symm; clear hw))
  go_wp2
  go_ret
  exact ⟨rfl, 1, _, grow3 w _ _ _⟩

def Tryz.sortX_ren : Go.Shelf.Ren := ⟨fun | 6 => 99 | 15 => 108 | 14 => 107 | 28 => 120 | 29 => 121 | 20 => 112 | 21 => 113 | 22 => 114 | 23 => 115 | 24 => 116 | 25 => 117 | 26 => 118 | 27 => 119 | 46 => 124 | 47 => 125 | 48 => 126 | 49 => 127 | 50 => 128 | 57 => 129 | n => n, fun | 22 => 139 | 24 => 58 | 25 => 158 | 3 => 3 | 39 => 143 | 0 => 0 | 53 => 25 | 55 => 177 | 4 => 4 | 46 => 169 | 45 => 168 | 50 => 173 | 5 => 5 | 9 => 9 | 66 => 179 | 70 => 183 | 76 => 185 | 77 => 186 | n => n, fun | n => n⟩
theorem Tryz.sortX : Go.Proofs.SlLaysF0.n6 Tryz.prog Tryz.sortX_ren := {
  mixed := by kernel_rfl
  f6 := ⟨Tryz.f99.name, by decide, Tryz.func99.trans (congrArg some (by kernel_rfl))⟩
  f14 := ⟨Tryz.f107.name, by decide, Tryz.func107.trans (congrArg some (by kernel_rfl))⟩
  f15 := Tryz.func108.trans (congrArg some (by kernel_rfl))
  f20 := ⟨Tryz.f112.name, by decide, Tryz.func112.trans (congrArg some (by kernel_rfl))⟩
  f21 := ⟨Tryz.f113.name, by decide, Tryz.func113.trans (congrArg some (by kernel_rfl))⟩
  f22 := ⟨Tryz.f114.name, by decide, Tryz.func114.trans (congrArg some (by kernel_rfl))⟩
  f23 := ⟨Tryz.f115.name, by decide, Tryz.func115.trans (congrArg some (by kernel_rfl))⟩
  f24 := ⟨Tryz.f116.name, by decide, Tryz.func116.trans (congrArg some (by kernel_rfl))⟩
  f25 := ⟨Tryz.f117.name, by decide, Tryz.func117.trans (congrArg some (by kernel_rfl))⟩
  f26 := ⟨Tryz.f118.name, by decide, Tryz.func118.trans (congrArg some (by kernel_rfl))⟩
  f27 := ⟨Tryz.f119.name, by decide, Tryz.func119.trans (congrArg some (by kernel_rfl))⟩
  f28 := Tryz.func120.trans (congrArg some (by kernel_rfl))
  f29 := Tryz.func121.trans (congrArg some (by kernel_rfl))
  f46 := ⟨Tryz.f124.name, by decide, Tryz.func124.trans (congrArg some (by kernel_rfl))⟩
  f47 := Tryz.func125.trans (congrArg some (by kernel_rfl))
  f48 := Tryz.func126.trans (congrArg some (by kernel_rfl))
  f49 := ⟨Tryz.f127.name, by decide, Tryz.func127.trans (congrArg some (by kernel_rfl))⟩
  f50 := ⟨Tryz.f128.name, by decide, Tryz.func128.trans (congrArg some (by kernel_rfl))⟩
  f57 := ⟨Tryz.f129.name, by decide, Tryz.func129.trans (congrArg some (by kernel_rfl))⟩
  t0 := Tryz.underlying0
  a0 := Tryz.isAgg0
  z0 := Tryz.sizeOf0
  v0 := Tryz.zeroValue0
  t3 := Tryz.underlying3
  a3 := Tryz.isAgg3
  z3 := Tryz.sizeOf3
  v3 := Tryz.zeroValue3
  t4 := Tryz.underlying4
  a4 := Tryz.isAgg4
  z4 := Tryz.sizeOf4
  v4 := Tryz.zeroValue4
  t5 := Tryz.underlying5
  a5 := Tryz.isAgg5
  z5 := Tryz.sizeOf5
  v5 := Tryz.zeroValue5
  t9 := Tryz.underlying9
  a9 := Tryz.isAgg9
  z9 := Tryz.sizeOf9
  v9 := Tryz.zeroValue9
  t22 := Tryz.underlying139
  a22 := Tryz.isAgg139
  z22 := Tryz.sizeOf139
  v22 := Tryz.zeroValue139
  t25 := Tryz.underlying158
  a25 := Tryz.isAgg158
  z25 := Tryz.sizeOf158
  v25 := Tryz.zeroValue158
  t39 := Tryz.underlying143
  a39 := Tryz.isAgg143
  z39 := Tryz.sizeOf143
  v39 := Tryz.zeroValue143
  t45 := Tryz.underlying168
  a45 := Tryz.isAgg168
  z45 := Tryz.sizeOf168
  v45 := Tryz.zeroValue168
  t46 := Tryz.underlying169
  a46 := Tryz.isAgg169
  z46 := Tryz.sizeOf169
  v46 := Tryz.zeroValue169
  t50 := Tryz.underlying173
  a50 := Tryz.isAgg173
  z50 := Tryz.sizeOf173
  v50 := Tryz.zeroValue173
  t53 := Tryz.underlying25
  a53 := Tryz.isAgg25
  z53 := Tryz.sizeOf25
  v53 := Tryz.zeroValue25
  t55 := Tryz.underlying177
  a55 := Tryz.isAgg177
  z55 := Tryz.sizeOf177
  v55 := Tryz.zeroValue177
  t66 := Tryz.underlying179
  a66 := Tryz.isAgg179
  z66 := Tryz.sizeOf179
  v66 := Tryz.zeroValue179
  t70 := Tryz.underlying183
  a70 := Tryz.isAgg183
  z70 := Tryz.sizeOf183
  v70 := Tryz.zeroValue183
  t76 := Tryz.underlying185
  a76 := Tryz.isAgg185
  z76 := Tryz.sizeOf185
  v76 := Tryz.zeroValue185
  t77 := Tryz.underlying186
  a77 := Tryz.isAgg186
  z77 := Tryz.sizeOf186
  v77 := Tryz.zeroValue186 }

theorem flatK_X (l : List (Nat × Nat)) : flatK encX 2 l.toArray = (flatX l).toArray := by
  refine ext_get! (by simp [flatX_length]) fun t ht => ?_
  have ht' : t < l.length * 2 := by simpa using ht
  have hq : t / 2 < l.length := by omega
  rw [get_flatK _ _ _ t (by simpa using ht')]
  have f := flatX_at l (t / 2) hq (t % 2) (by omega)
  rw [show t / 2 * 2 + t % 2 = t by omega] at f
  have e0 : l.toArray[t / 2]! = l[t / 2] := by simp [getElem!_pos, hq]
  rw [e0]
  have : (flatX l).toArray[t]! = ((flatX l)[t]?).getD default := by simp
  rw [this, f]
  simp
theorem heap_sortX {w : World} {g n : Nat} {os : Array Obj} {cur : Array Value} {e : TypeId} {fr : Nat × Nat} (d : Array (Nat × Nat)) (hb : w.heap[g]? = some (.cells cur e fr)) :
    (sortWorldK encX 2 w g 0 n d os).heap[g]? = some (.cells (putCells id 0 (flatK encX 2 d) cur) e fr) := by
  have hg : g < w.heap.size := (Array.getElem?_eq_some_iff.1 hb).1
  unfold sortWorldK putRowK
  rw [heap_grow_old _ _ (by simpa using hg)]
  simp [putRow, mapBlock, Sort.ahead, Array.getElem?_modify, hb, onCells]
theorem grownBy_sortX {w : World} {g n : Nat} {os : Array Obj} (d : Array (Nat × Nat)) : w.grownBy (sortWorldK encX 2 w g 0 n d os) (some g) := by
  unfold sortWorldK putRowK
  refine ⟨rfl, rfl, rfl, by simp, fun k hk hne => ?_⟩
  rw [heap_grow_old _ _ (by simpa using hk)]
  have : g ≠ k := fun e => hne (by rw [e])
  simp [putRow, mapBlock, Sort.ahead, Array.getElem?_modify, this]
theorem take_putX (cur F : Array Value) (h : F.size ≤ cur.size) : (putCells id 0 F cur).toList.take F.size = F.toList := by
  apply List.ext_getElem?
  intro j
  by_cases hj : j < F.size
  · rw [List.getElem?_take_of_lt hj, Array.getElem?_toList]
    simp [putCells, hj, show j < cur.size by omega]
  · rw [List.getElem?_take_eq_none (by omega), List.getElem?_eq_none (by simp; omega)]
theorem laysX (blk off size : Nat) (w : World) : CmpLays Tryz.prog 100 #[] encX 2 cfX blk off size w :=
  fun m os dk hs x y => (cmpXC x y _).mono fun _ _ ⟨he, q, os', hw⟩ => ⟨he, q, os', hw⟩
theorem sortX (l : List (Nat × Nat)) (b g n cap : Nat) (w : World) (h : RowX w b (.slice (some ⟨g, 0, none⟩) n cap) l) (hl : n ≤ 4294967296) :
    Calls Tryz.prog 99 #[.slice (some ⟨g, 0, none⟩) n cap, .func (.func 100) #[] #[]] w fun e w' =>
      e = .returned (.tuple #[]) ∧ ∃ d : Array (Nat × Nat), d.toList.Perm l ∧ (∀ i j, i < j → j < d.size → ¬ ltX d[j]! d[i]!) ∧ RowX w' b (.slice (some ⟨g, 0, none⟩) n cap) d.toList ∧ w.grownBy w' (some g) := by
  have eg : ∀ args w, (callFunc 100 args).run Tryz.prog w = .ok (.enter 100 args) w := enters_of Tryz.func100 (by kernel_rfl) rfl
  rcases h.2 with ⟨hv, _⟩ | ⟨g', cap', cur, hv, hb, hg, hn, hm, hs, htk⟩
  · cases hv
  have hv' := hv
  injection hv' with e1 e2 e3
  injection e1 with e1
  injection e1 with e1
  subst e1 e2 e3
  have hH : HoldsK encX 2 w g 0 l.toArray := by
    unfold HoldsK
    rw [flatK_X]
    intro j hj
    have hj' : j < (flatX l).length := by simpa using hj
    have h' : w.ownsRow b 58 2 (.slice (some ⟨g, 0, none⟩) l.length cap) l.length (flatX l) := h
    rw [Nat.zero_add]
    refine ⟨?_, h'.frozenAt j⟩
    rw [h'.cellAt j (by rw [flatX_length] at hj'; exact hj')]
    simp [List.getElem?_eq_getElem hj', hj']
  have hcon := AnyQ.slices_SortFunc Tryz.sortX 2 Tryz.isAgg58 Tryz.sizeOf58 encX (fun _ => rfl) (fun x v hv => by simp [encX] at hv; rcases hv with rfl | rfl <;> rfl) cfX swoX 100 #[] g 0 cap l.toArray w eg (laysX g 0 _ w) hH (Array.getElem?_eq_some_iff.1 hg).1 (by simp; omega)
  change Calls Tryz.prog 99 _ _ _ at hcon
  simp only [List.size_toArray] at hcon
  refine hcon.mono ?_
  rintro e w' ⟨he, d', q, os, hp, hso, rfl⟩
  have hsz : d'.size = l.length := by simpa using hp.1
  refine ⟨he, d', ?_, fun i j hij hj => ?_, ?_, grownBy_sortX d'⟩
  · have h3 := hp.2.2
    have e1 : (d'.extract 0 l.length) = d' := by rw [← hsz]; simp
    have e2 : (l.toArray.extract 0 l.length) = l.toArray := by simp
    rw [e1, e2] at h3
    exact h3
  · have := hso i j (Nat.zero_le _) hij (by omega)
    rwa [lt_cfX'] at this
  · have e1 : flatK encX 2 d' = (flatX d'.toList).toArray := by
      have := flatK_X d'.toList
      simpa using this
    refine ⟨flatX_length _, .inr ⟨g, cap, _, by simp [hsz], hb, heap_sortX d' hg, by simp; omega, hm, by simp [putCells, hs], ?_⟩⟩
    have := take_putX cur (flatK encX 2 d') (by simp; omega)
    rw [size_flatK] at this
    rw [Array.length_toList, this, e1]
set_option maxHeartbeats 2000000 in
theorem ins0X (fv : Value) (w : World) : Calls Tryz.prog 112 #[.slice none 0 0, .int .i64 0, .int .i64 0, fv] w fun e w' => e = .returned (.tuple #[]) ∧ w' = w := by
  go_enter Tryz.func112, Tryz.ntmps112
  go_wp2
  refine wp_loop_rounds 1 ?_
  rw [rounds_succ]
  go_wp2
  go_end0
  exact ⟨rfl, rfl⟩
set_option maxHeartbeats 2000000 in
theorem pdq0X (lim : Int) (fv : Value) (w : World) : Calls Tryz.prog 107 #[.slice none 0 0, .int .i64 0, .int .i64 0, .int .i64 lim, fv] w fun e w' => e = .returned (.tuple #[]) ∧ w' = w := by
  go_enter Tryz.func107, Tryz.ntmps107
  go_wp2
  refine wp_loop_rounds 1 ?_
  rw [rounds_succ]
  go_wp2_with (go_at_call 112; refine (ins0X _ _).mono ?_; rintro e w' ⟨rfl, rfl⟩)
  (try simp only [Exit.inBlock, Exit.then]); refine bodyPost_ret (results_none rfl _ _ _) rfl ?_
  exact ⟨rfl, rfl⟩
set_option maxHeartbeats 2000000 in
theorem sort0X (w : World) : Calls Tryz.prog 99 #[.slice none 0 0, .func (.func 100) #[] #[]] w fun e w' => e = .returned (.tuple #[]) ∧ Below w.heap.size w w' := by
  have hl : ∀ W, Calls Tryz.prog 108 #[.int .u64 0] W fun e w' => ∃ n : Int, e = .returned (.int .i64 n) ∧ w' = W := fun W => by
    go_enter Tryz.func108, Tryz.ntmps108
    go_wp2
    go_ret
    exact ⟨_, rfl, rfl⟩
  go_enter Tryz.func99, Tryz.ntmps99
  go_wp2_with (first | (go_at_call 108; refine (hl _).mono ?_; rintro e w' ⟨n0, rfl, rfl⟩) | (go_at_call 107; refine (pdq0X _ _ _).mono ?_; rintro e w' ⟨rfl, rfl⟩))
  go_end0
  exact ⟨rfl, Below.refl _ _⟩
set_option maxHeartbeats 1000000 in
theorem comp0X (w : World) : Calls Tryz.prog 101 #[.slice none 0 0] w fun e w' => e = .returned (.slice none 0 0) ∧ w' = w := by
  go_enter Tryz.func101, Tryz.ntmps101
  go_wp2
  go_ret
  exact ⟨rfl, rfl⟩
set_option maxHeartbeats 1000000 in
/-- Cloned, sorted, compacted. -/
theorem unlX (l : List (Nat × Nat)) (v : Value) (w : World) (h : SrcX w v l) (hl : l.length ≤ 4294967296) :
    Calls Tryz.prog 90 #[v] w fun e w' => ∃ (v' : Value) (u : List (Nat × Nat)), e = .returned v' ∧ (∀ x, x ∈ u ↔ x ∈ l) ∧ u.Pairwise ltX ∧ RowX w' w.heap.size v' u ∧ Below w.heap.size w w' := by
  have hC := cloneX l v w h hl
  clear h
  go_enter Tryz.func90, Tryz.ntmps90
  go_wp2_with (fail)
  refine hC.mono ?_
  rintro e w1 ⟨v1, rfl, hr1, hb1⟩
  rcases hr1.2 with ⟨hv, h0⟩ | ⟨g, cap, cur, hv, hb, hg, r⟩
  · have hnil : l = [] := List.eq_nil_of_length_eq_zero h0
    subst hv hnil
    have hs0 : Calls Tryz.prog 99 #[.slice none 0 0, .func (.func 100) #[] #[]] w1 fun e w' => e = .returned (.tuple #[]) ∧ Below w1.heap.size w1 w' := sort0X w1
    clear hr1 hC
    have HB1 : Hid (Below w.heap.size w w1) := hb1
    clear hb1
    go_wp2_with (fail)
    refine hs0.mono ?_
    rintro e w2 ⟨rfl, hb2⟩
    have HB2 : Hid (Below w.heap.size w w2) := bel_of HB1.out hb2 HB1.out.size
    clear hb2
    go_wp2_with (fail)
    refine (comp0X w2).mono ?_
    rintro e w3 ⟨rfl, hw3⟩
    obtain rfl := hw3.symm
    clear hw3
    go_wp2
    go_ret
    exact ⟨_, [], rfl, fun x => Iff.rfl, List.Pairwise.nil, World.ownsRow_nil _ _ _ _, HB2.out⟩
  · subst hv
    obtain ⟨n, hn⟩ : ∃ n, n = l.length := ⟨_, rfl⟩
    rw [← hn] at hr1 hl ⊢
    have hS := sortX l w.heap.size g n cap w1 hr1 hl
    have HB1 : Hid (Below w.heap.size w w1) := hb1
    clear hb1 r hg hr1 hC
    have hgl : w.heap.size ≤ g := hb
    clear hb hn
    go_wp2_with (fail)
    refine hS.mono ?_
    rintro e w2 ⟨rfl, d, hp, hsd, hr2, hg2⟩
    have hC2 := compX d w.heap.size g n cap w2 hr2 hl
    have HU : Hid _ := comp_perm (lt := ltX) (fun a h => by unfold ltX at h; omega) (fun a b c h g => by unfold ltX at *; omega) (fun a b h hn => by have : ¬ (a.1 = b.1 ∧ a.2 = b.2) := fun e => hn (Prod.ext e.1 e.2); unfold ltX at *; omega) hp hsd
    have HB2 : Hid (Below w.heap.size w w2) := HB1.out.grown hg2 HB1.out.size (fun k hk => by injection hk with e; omega)
    clear hr2 hg2 hS HB1 hp hsd
    go_wp2_with (fail)
    refine hC2.mono ?_
    rintro e w3 ⟨n', rfl, hr3, hg3⟩
    have HB3 : Hid (Below w.heap.size w w3) := HB2.out.grown hg3 HB2.out.size (fun k hk => by injection hk with e; omega)
    have HR3 : Hid (RowX w3 w.heap.size (.slice (some ⟨g, 0, none⟩) n' cap) (compactUpTo d d.size)) := hr3
    clear hr3 hg3 hC2
    go_wp2
    go_ret
    exact ⟨_, _, rfl, HU.out.1, HU.out.2, HR3.out, HB3.out⟩
end Go.Proofs.YtgidohnikggjfaaGreat
