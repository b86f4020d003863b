/-
  PnGC: PnM PnH PnL PnO PnP PnS PnT, one behind the other (tools/merge.py).
-/
import Derived.Test.YtcpcljdnkekogaaPnPl
import Derived.Test.YtcpcljdnkekogaaPnGB
import Derived.Test.YtcpcljdnkekogaaPnGA
import Derived.Test.YtcpcljdnkekogaaTbT
import Derived.Test.YtcpcljdnkekogaaTbRd
import Derived.Test.YtcpcljdnkekogaaBxY
/-
  The mathematics of prune's look-up: along an address to the longest prefix, first of sources, then of destinations; the list there is that of all rules that have both addresses.
-/
namespace Go.Proofs.Ytcpcljdnkekogaa
set_option linter.unusedVariables false
set_option linter.unusedSimpArgs false

/-- Of the first k prefixes of an address the longest that bears something bears v. -/
def Lng (N : List Pn) (G : List Lab) (r a k v : Nat) : Prop :=
  (v = 0 ∧ ∀ j, j < k → ∀ u, ¬ Bs N G r (pth a j) u) ∨ ∃ j, j < k ∧ Bs N G r (pth a j) v ∧ ∀ j', j < j' → j' < k → ∀ u, ¬ Bs N G r (pth a j') u
theorem Lng.zero (N : List Pn) (G : List Lab) (r a : Nat) : Lng N G r a 0 0 := .inl ⟨rfl, fun j hj => by omega⟩
theorem Lng.no {N : List Pn} {G : List Lab} {r a k v : Nat} (h : Lng N G r a k v) (hn : ∀ u, ¬ Bs N G r (pth a k) u) : Lng N G r a (k + 1) v := by
  rcases h with ⟨e, h⟩ | ⟨j, hj, hb, h⟩
  · refine .inl ⟨e, fun j hj u => ?_⟩
    by_cases e : j = k
    · rw [e]; exact hn u
    · exact h j (by omega) u
  · refine .inr ⟨j, by omega, hb, fun j' h1 h2 u => ?_⟩
    by_cases e : j' = k
    · rw [e]; exact hn u
    · exact h j' h1 (by omega) u
theorem Lng.step {N : List Pn} {G : List Lab} (hw : Wf N G) {r a k v t : Nat} {x : Pn} (h : Lng N G r a k v) (hg : G[t]? = some (r, pth a k)) (hx : N[t]? = some x) : Lng N G r a (k + 1) (if x.c = 0 then v else x.c) := by
  by_cases hc : x.c = 0
  · rw [if_pos hc]
    exact h.no fun u hb => by have := (Bs.at hw hg hx).1 hb; omega
  · rw [if_neg hc]
    exact .inr ⟨k, by omega, (Bs.at hw hg hx).2 ⟨rfl, hc⟩, fun j' h1 h2 => by omega⟩
theorem no_longer {N : List Pn} {G : List Lab} (hw : Wf N G) {r a k : Nat} (h : ∀ i : Nat, G[i]? ≠ some (r, pth a k)) : ∀ d : Nat, ∀ i : Nat, G[i]? ≠ some (r, pth a (k + d))
  | 0 => h
  | d + 1 => fun i hi => by
    rw [← Nat.add_assoc, pth_succ] at hi
    obtain ⟨j, hj⟩ := hw.pre i r _ _ hi
    exact no_longer hw h d j hj
theorem Lng.stop {N : List Pn} {G : List Lab} (hw : Wf N G) {r a k v : Nat} (h : Lng N G r a k v) (hk : k ≤ 33) (hn : ∀ i : Nat, G[i]? ≠ some (r, pth a k)) : Lng N G r a 33 v := by
  have key : ∀ d, Lng N G r a (k + d) v := fun d => by
    induction d with
    | zero => exact h
    | succ d ih => exact ih.no fun u ⟨i, x, hi, _⟩ => no_longer hw hn d i hi
  have := key (33 - k)
  rwa [show k + (33 - k) = 33 by omega] at this
/-- At a node without a kid on the way. -/
theorem no_kid {N : List Pn} {G : List Lab} (hw : Wf N G) {r a k t : Nat} {x : Pn} (hg : G[t]? = some (r, pth a k)) (hx : N[t]? = some x) (hk : k < 32 → x.kid (Pf.tb a k) = 0) : ∀ i : Nat, G[i]? ≠ some (r, pth a (k + 1)) := by
  intro i hi
  by_cases h : k < 32
  · rw [pth_succ] at hi
    exact hw.no t x r _ _ hx hg (Pf.tb_lt a k) (hk h) i hi
  · have := hw.short i r _ hi
    rw [pth_len] at this; omega
theorem last_kid {N : List Pn} {G : List Lab} (hw : Wf N G) {r a k t u : Nat} {x : Pn} (hg : G[t]? = some (r, pth a k)) (hx : N[t]? = some x) (hu : u < 2) (h : ¬ k < 32) : x.kid u = 0 := by
  apply Classical.byContradiction
  intro e
  have := hw.short _ r _ (hw.up t x r _ u hx hg hu e)
  rw [List.length_append, pth_len] at this
  simp at this; omega
/-- Does a prefix hold an address? -/
def hasX (x : Nat × Nat) (a : Nat) : Bool := decide (Pf.ct a x.2 = x.1)
theorem hasX_pp {x : Nat × Nat} {a : Nat} (hx : Okx x) (ha : a < 4294967296) : hasX x a = true ↔ pp x = pth a x.2 := by
  unfold hasX pp
  rw [decide_eq_true_iff, pth_ct hx.1 ha hx.2.1, hx.2.2]
  exact ⟨fun e => e.symm, fun e => e.symm⟩
theorem lng_find {N : List Pn} {G : List Lab} {r a v : Nat} {D : List (Nat × Nat)} {P : Nat × Nat → Nat → Prop} (hs : ∀ q v, Bs N G r q v → ∃ d ∈ D, q = pp d ∧ P d v) (hf : ∀ d ∈ D, ∃ v, Bs N G r (pp d) v) (hD : ∀ d ∈ D, Okx d) (ha : a < 4294967296) (L : Lng N G r a 33 v) :
    (v = 0 ∧ ∀ d ∈ D, hasX d a = false) ∨ (v ≠ 0 ∧ ∃ d ∈ D, hasX d a = true ∧ P d v ∧ ∀ t ∈ D, hasX t a = true → t.2 ≤ d.2) := by
  rcases L with ⟨e, h⟩ | ⟨j, hj, hb, h⟩
  · refine .inl ⟨e, fun d hd => ?_⟩
    rw [Bool.eq_false_iff]
    intro hh
    obtain ⟨u, hu⟩ := hf d hd
    rw [(hasX_pp (hD d hd) ha).1 hh] at hu
    exact h d.2 (by have := (hD d hd).2.1; omega) u hu
  · refine .inr ⟨?_, ?_⟩
    · obtain ⟨_, _, _, _, _, e⟩ := hb; exact e
    · obtain ⟨d, hd, e, hp⟩ := hs _ _ hb
      have hjd : j = d.2 := by have := congrArg List.length e; simpa [pp, pth_len] using this
      subst hjd
      refine ⟨d, hd, (hasX_pp (hD d hd) ha).2 e.symm, hp, fun t ht hh => ?_⟩
      apply Classical.byContradiction
      intro hlt
      obtain ⟨u, hu⟩ := hf t ht
      rw [(hasX_pp (hD t ht) ha).1 hh] at hu
      exact h t.2 (by omega) (by have := (hD t ht).2.1; omega) u hu
theorem okx_of {x : Nat × Nat} (h : OkX x) : Okx x := by
  obtain ⟨m, e, h1, h2⟩ := Pf.chk_ok h.2
  have : m = x.2 := by omega
  subst this
  exact ⟨h.1, h1, Pf.ct_self _ _ h2⟩
theorem witX_iff {s t : Nat × Nat} (hs : OkX s) (ht : OkX t) : witX s t = true ↔ t.2 ≤ s.2 ∧ Pf.ct s.1 t.2 = t.1 := by
  unfold witX Pf.witB Pf.hasB
  rw [decide_eq_true_iff, decide_eq_true_iff]
  have h1 := hs.2; have h2 := ht.2
  simp only [h1, h2, true_and, Int.toNat_natCast]
  omega
theorem wit_of {s t : Nat × Nat} {a : Nat} (hs : OkX s) (ht : OkX t) (h1 : hasX s a = true) (h2 : hasX t a = true) (h : t.2 ≤ s.2) : witX s t = true := by
  unfold hasX at h1 h2
  rw [decide_eq_true_iff] at h1 h2
  rw [witX_iff hs ht]
  exact ⟨h, by rw [← h1, Pf.ct_ct _ _ _ h]; exact h2⟩
theorem has_of {s t : Nat × Nat} {a : Nat} (hs : OkX s) (ht : OkX t) (h1 : hasX s a = true) (h : witX s t = true) : hasX t a = true := by
  rw [witX_iff hs ht] at h
  unfold hasX at h1 ⊢
  rw [decide_eq_true_iff] at h1 ⊢
  rw [← h.2, ← h1, Pf.ct_ct _ _ _ h.1]
theorem hasB_X {R : Ru} {a : Nat} (hx : OkX (sr R)) (he : R.sl = ((sr R).2 : Int)) : Pf.hasB R.s R.sl a = hasX (sr R) a := by
  rw [he]
  have h := Pf.hasB_in (x := a) hx.2
  exact h
theorem hasB_Y {R : Ru} {a : Nat} (hx : OkX (ds R)) (he : R.dl = ((ds R).2 : Int)) : Pf.hasB R.d R.dl a = hasX (ds R) a := by
  rw [he]
  have h := Pf.hasB_in (x := a) hx.2
  exact h

/-- The rule at a place. -/
def ruAt (l : List Ru) (i : Nat) : Ru := l.getD i ruZ0
theorem ruAt_at {l : List Ru} {i : Nat} (h : i < l.length) : ruAt l i = l[i] := by simp [ruAt, h]
/-- Places of rules whose source holds s; those of them whose destination holds d; their destinations. -/
def holdL (l : List Ru) (s : Nat × Nat) : List Nat := (List.range l.length).filter fun i => witX s (sr (ruAt l i))
def amgL (l : List Ru) (ps : List Nat) (d : Nat × Nat) : List Nat := ps.filter fun i => witX d (ds (ruAt l i))
def dsL (l : List Ru) (ps : List Nat) : List (Nat × Nat) := ps.map fun i => ds (ruAt l i)
def tgL (l : List Ru) (s : Nat × Nat) : List (Nat × Nat) := dsL l (holdL l s)
def lsL (l : List Ru) (s d : Nat × Nat) : List Nat := amgL l (holdL l s) d
/-- Places of rules that have both addresses. -/
def prsL (l : List Ru) (h : Hd) : List Nat := (List.range l.length).filter fun i => hasX (sr (ruAt l i)) h.s && hasX (ds (ruAt l i)) h.d
/-- All of them may be. -/
def OkA (l : List Ru) : Prop := ∀ R ∈ l, BdR R ∧ okR R = true
theorem OkA.at {l : List Ru} (o : OkA l) {i : Nat} (h : i < l.length) : OkX (sr (ruAt l i)) ∧ OkX (ds (ruAt l i)) := by
  rw [ruAt_at h]
  obtain ⟨a, b⟩ := o _ (List.getElem_mem h)
  have := okR_sr b a
  exact ⟨this.1, this.2.2.1⟩
theorem OkA.src {l : List Ru} (o : OkA l) {s : Nat × Nat} (h : s ∈ l.map sr) : OkX s := by
  obtain ⟨R, hR, rfl⟩ := List.mem_map.1 h
  obtain ⟨a, b⟩ := o R hR
  exact (okR_sr b a).1
theorem holdL_lt {l : List Ru} {s : Nat × Nat} {i : Nat} (h : i ∈ holdL l s) : i < l.length := List.mem_range.1 (List.mem_filter.1 h).1
theorem OkA.dst {l : List Ru} (o : OkA l) {s d : Nat × Nat} (h : d ∈ tgL l s) : OkX d := by
  obtain ⟨i, hi, rfl⟩ := List.mem_map.1 h
  exact (o.at (holdL_lt hi)).2
theorem src_mem {l : List Ru} {i : Nat} (h : i < l.length) : sr (ruAt l i) ∈ l.map sr := by
  rw [ruAt_at h]; exact List.mem_map.2 ⟨_, List.getElem_mem h, rfl⟩
theorem filter_none {α : Type} {l : List α} {p : α → Bool} (h : ∀ x ∈ l, p x = false) : l.filter p = [] := by
  rw [List.filter_eq_nil_iff]
  intro x hx; rw [h x hx]; simp
/-- No source holds the address. -/
theorem prs_none1 {l : List Ru} {h : Hd} (hn : ∀ s ∈ l.map sr, hasX s h.s = false) : prsL l h = [] := filter_none fun i hi => by
  rw [hn _ (src_mem (List.mem_range.1 hi))]; rfl
/-- A source does, the longest, but no destination. -/
theorem prs_none2 {l : List Ru} {h : Hd} (o : OkA l) {s : Nat × Nat} (hs : s ∈ l.map sr) (h1 : hasX s h.s = true) (hm : ∀ t ∈ l.map sr, hasX t h.s = true → t.2 ≤ s.2) (hn : ∀ d ∈ tgL l s, hasX d h.d = false) : prsL l h = [] := filter_none fun i hi => by
  have hi' := List.mem_range.1 hi
  by_cases e : hasX (sr (ruAt l i)) h.s = true
  · have := wit_of (o.src hs) (o.at hi').1 h1 e (hm _ (src_mem hi') e)
    rw [hn _ (List.mem_map.2 ⟨i, List.mem_filter.2 ⟨hi, this⟩, rfl⟩), Bool.and_false]
  · rw [Bool.not_eq_true] at e; rw [e]; rfl
/-- Both do. -/
theorem prs_some {l : List Ru} {h : Hd} (o : OkA l) {s d : Nat × Nat} (hs : s ∈ l.map sr) (h1 : hasX s h.s = true) (hm : ∀ t ∈ l.map sr, hasX t h.s = true → t.2 ≤ s.2) (hd : d ∈ tgL l s) (h2 : hasX d h.d = true) (hn : ∀ t ∈ tgL l s, hasX t h.d = true → t.2 ≤ d.2) : lsL l s d = prsL l h := by
  unfold lsL amgL holdL prsL
  rw [List.filter_filter]
  refine List.filter_congr fun i hi => ?_
  have hi' := List.mem_range.1 hi
  have a1 := (o.at hi').1
  have a2 := (o.at hi').2
  have b1 := o.src hs
  have b2 := o.dst hd
  rw [Bool.eq_iff_iff, Bool.and_eq_true, Bool.and_eq_true]
  constructor
  · rintro ⟨e2, e1⟩
    exact ⟨has_of b1 a1 h1 e1, has_of b2 a2 h2 e2⟩
  · rintro ⟨e1, e2⟩
    have w1 := wit_of b1 a1 h1 e1 (hm _ (src_mem hi') e1)
    exact ⟨wit_of b2 a2 h2 e2 (hn _ (List.mem_map.2 ⟨i, List.mem_filter.2 ⟨hi, w1⟩, rfl⟩) e2), w1⟩
/-- The forest of a list. -/
def Plt (l : List Ru) (N : List Pn) (LS : List (List Nat)) : Prop := (l = [] ∧ N = [] ∧ LS = []) ∨ (l ≠ [] ∧ ∃ G, Pla (l.map sr) (tgL l) (lsL l) l.length N G LS)
theorem Pla.src {l : List Ru} {N : List Pn} {G : List Lab} {LS : List (List Nat)} (h : Pla (l.map sr) (tgL l) (lsL l) l.length N G LS) (o : OkA l) {a v : Nat} (ha : a < 4294967296) (L : Lng N G 0 a 33 v) :
    (v = 0 ∧ ∀ d ∈ l.map sr, hasX d a = false) ∨ (v ≠ 0 ∧ ∃ d ∈ l.map sr, hasX d a = true ∧ Hung N G LS v (tgL l d) (lsL l d) ∧ ∀ t ∈ l.map sr, hasX t a = true → t.2 ≤ d.2) := by
  have e : (l.map sr).take l.length = l.map sr := by rw [List.take_of_length_le (by simp)]
  have h1 := h.sound; have h2 := h.full
  rw [e] at h1 h2
  exact lng_find (P := fun d v => Hung N G LS v (tgL l d) (lsL l d)) h1 h2 (fun d hd => okx_of (o.src hd)) ha L
theorem Hung.dst {l : List Ru} {s : Nat × Nat} {N : List Pn} {G : List Lab} {LS : List (List Nat)} {r : Nat} (h : Hung N G LS r (tgL l s) (lsL l s)) (o : OkA l) {a v : Nat} (ha : a < 4294967296) (L : Lng N G r a 33 v) :
    (v = 0 ∧ ∀ d ∈ tgL l s, hasX d a = false) ∨ (v ≠ 0 ∧ ∃ d ∈ tgL l s, hasX d a = true ∧ LS[v - 1]? = some (lsL l s d) ∧ ∀ t ∈ tgL l s, hasX t a = true → t.2 ≤ d.2) :=
  lng_find (P := fun d v => LS[v - 1]? = some (lsL l s d)) h.2.2.1 h.2.2.2 (fun d hd => okx_of (o.dst hd)) ha L
/-- How large it is. -/
theorem map_range {α : Type} (l : List Ru) (f : Ru → α) : (List.range l.length).map (fun i => f (ruAt l i)) = l.map f := by
  apply List.ext_getElem (by simp)
  intro i h1 h2
  simp at h1
  simp [ruAt, h1]
theorem tgL_tgs (l : List Ru) (s : Nat × Nat) : tgL l s = tgs witX (l.map pr) s := by
  unfold tgs
  rw [← map_range l pr, List.filter_map, List.map_map]
  rfl
theorem lsL_len (l : List Ru) (s d : Nat × Nat) : (lsL l s d).length = (tgL l s).countP (witX d) := by
  unfold lsL amgL tgL dsL
  rw [List.countP_map, List.countP_eq_length_filter]; rfl
theorem sum_prn (l : List Ru) : sumF (fun s => sumF (fun d => (lsL l s d).length) (uq (tgL l s))) (uq (l.map sr)) = prnN witX (l.map pr) := by
  unfold prnN
  rw [show (l.map pr).map (·.1) = l.map sr by simp [pr]]
  refine sumF_congr fun s _ => ?_
  unfold hel
  rw [tgL_tgs]
  exact sumF_congr fun d _ => by rw [lsL_len, tgL_tgs]
theorem sum_grd (l : List Ru) : sumF (fun s => (tgL l s).length) (uq (l.map sr)) = grdN witX (l.map pr) := by
  unfold grdN hel
  rw [show (l.map pr).map (·.1) = l.map sr by simp [pr]]
  exact sumF_congr fun s _ => by rw [tgL_tgs, tgs_len, show (l.map pr).map (·.1) = l.map sr by simp [pr]]
theorem OkA.wit {l : List Ru} (o : OkA l) : (∀ r ∈ l.map pr, witX r.1 r.1 = true) ∧ ∀ r ∈ l.map pr, witX r.2 r.2 = true := by
  constructor
  · intro r hr
    obtain ⟨R, hR, rfl⟩ := List.mem_map.1 hr
    obtain ⟨a, b⟩ := o R hR
    exact witX_self (okR_sr b a).1
  · intro r hr
    obtain ⟨R, hR, rfl⟩ := List.mem_map.1 hr
    obtain ⟨a, b⟩ := o R hR
    exact witX_self (okR_sr b a).2.2.1
theorem Plt.sum {l : List Ru} {N : List Pn} {LS : List (List Nat)} (h : Plt l N LS) : pnTot LS = prnN witX (l.map pr) := by
  rcases h with ⟨rfl, rfl, rfl⟩ | ⟨_, G, h⟩
  · rfl
  · have := h.sum
    rw [List.take_of_length_le (by simp)] at this
    rw [this, sum_prn]
theorem sum_32 {f : Nat × Nat → Nat} : ∀ u : List (Nat × Nat), (∀ x ∈ u, 1 ≤ f x) → sumF (fun s => 1 + 32 * f s) u ≤ 33 * sumF f u
  | [], _ => by simp [sumF]
  | a :: u, h => by
    rw [sumF_cons, sumF_cons]
    have := sum_32 u fun x hx => h x (List.mem_cons_of_mem _ hx)
    have := h a (List.mem_cons_self ..)
    omega
theorem Plt.few {l : List Ru} {N : List Pn} {LS : List (List Nat)} (h : Plt l N LS) (o : OkA l) : N.length ≤ 33 * (grdN witX (l.map pr) + l.length) + 1 := by
  rcases h with ⟨rfl, rfl, rfl⟩ | ⟨_, G, h⟩
  · simp
  · have h1 := h.few
    have h2 := h.wf.len
    rw [List.take_of_length_le (by simp)] at h1
    have h3 := sum_32 (f := fun s => (tgL l s).length) (uq (l.map sr)) (fun s hs => by
      have hs' := (mem_uq _ _).1 hs
      obtain ⟨R, hR, rfl⟩ := List.mem_map.1 hs'
      obtain ⟨i, hi, e⟩ := List.mem_iff_getElem.1 hR
      have : i ∈ holdL l (sr R) := List.mem_filter.2 ⟨List.mem_range.2 hi, by rw [ruAt_at hi, e]; exact witX_self (o.src hs')⟩
      exact List.length_pos_of_mem (List.mem_map.2 ⟨i, this, rfl⟩))
    rw [sum_grd] at h3
    omega
theorem Plt.lens {l : List Ru} {N : List Pn} {LS : List (List Nat)} (h : Plt l N LS) : LS.length ≤ grdN witX (l.map pr) := by
  rcases h with ⟨rfl, rfl, rfl⟩ | ⟨_, G, h⟩
  · simp
  · have h1 := h.lists
    rw [List.take_of_length_le (by simp), sum_grd] at h1
    exact h1
theorem grd_le (l : List Ru) : grdN witX (l.map pr) ≤ l.length * l.length := by
  have := hel_le (W := witX) ((l.map pr).map (·.1))
  unfold grdN
  simpa using this
/-- The first match is one of the places. -/
theorem prs_lt {l : List Ru} {h : Hd} {i : Nat} (hi : i ∈ prsL l h) : i < l.length := List.mem_range.1 (List.mem_filter.1 hi).1
theorem prs_count {l : List Ru} (o : OkA l) (h : Hd) : (prsL l h).length = prsN l h := by
  unfold prsL prsN
  have e : prsB h = (prsB h ∘ id) := rfl
  have : l.countP (prsB h) = ((List.range l.length).map (fun i => ruAt l i)).countP (prsB h) := by rw [map_range l (fun R => R)]; simp
  rw [this, List.countP_map, List.countP_eq_length_filter]
  congr 1
  refine List.filter_congr fun i hi => ?_
  have hi' := List.mem_range.1 hi
  obtain ⟨a, b⟩ := o _ (List.getElem_mem hi')
  have k := okR_sr b a
  simp only [Function.comp_apply, prsB]
  rw [ruAt_at hi', b, Bool.true_and, hasB_X k.1 k.2.1, hasB_Y k.2.2.1 k.2.2.2]
theorem prs_match {l : List Ru} (o : OkA l) {h : Hd} {i : Nat} (hi : i < l.length) (hm : matchR l[i] h = true) : i ∈ prsL l h := by
  obtain ⟨a, b⟩ := o _ (List.getElem_mem hi)
  have k := okR_sr b a
  unfold matchR at hm
  simp only [Bool.and_eq_true] at hm
  refine List.mem_filter.2 ⟨List.mem_range.2 hi, ?_⟩
  rw [ruAt_at hi, ← hasB_X k.1 k.2.1, ← hasB_Y k.2.2.1 k.2.2.2, hm.2.1.1.1.1, hm.2.1.1.1.2]; rfl
theorem prs_sorted (l : List Ru) (h : Hd) : (prsL l h).Pairwise (· < ·) := List.Pairwise.filter _ List.pairwise_lt_range
theorem matP_none (h : Hd) : ∀ (l : List Ru) (b : Nat), (∀ R ∈ l, matchR R h = false) → matK h l b = -1
  | [], b, _ => rfl
  | R :: l, b, hn => by
    unfold matK
    rw [if_neg (by rw [hn R (by simp)]; simp)]
    exact matP_none h l (b + 1) fun S hS => hn S (by simp [hS])
theorem matP_at (h : Hd) : ∀ (l : List Ru) (b k : Nat) (hk : k < l.length), (∀ j (hj : j < k), matchR (l[j]'(by omega)) h = false) → matchR (l[k]'hk) h = true → matK h l b = ((b + k : Nat) : Int)
  | R :: l, b, 0, _, _, hm => by unfold matK; rw [if_pos (by simpa using hm)]; rfl
  | R :: l, b, k + 1, hk, hn, hm => by
    unfold matK
    have h0 : matchR R h = false := by simpa using hn 0 (by omega)
    rw [if_neg (by rw [h0]; simp), matP_at h l (b + 1) k (by simpa using hk) (fun j hj => by simpa using hn (j + 1) (by omega)) (by simpa using hm)]
    congr 1; omega
theorem mat_prs_none {l : List Ru} (o : OkA l) {h : Hd} (hn : ∀ i ∈ prsL l h, matchR (ruAt l i) h = false) : mat l h = -1 := by
  refine matP_none h l 0 fun R hR => ?_
  obtain ⟨i, hi, rfl⟩ := List.mem_iff_getElem.1 hR
  rw [Bool.eq_false_iff]
  intro hm
  have := hn i (prs_match o hi hm)
  rw [ruAt_at hi, hm] at this; cases this
theorem mat_prs_at {l : List Ru} (o : OkA l) {h : Hd} {k : Nat} (hk : k < (prsL l h).length) (hn : ∀ j (hj : j < k), matchR (ruAt l ((prsL l h)[j]'(by omega))) h = false) (hm : matchR (ruAt l (prsL l h)[k]) h = true) : mat l h = ((prsL l h)[k] : Nat) := by
  have hlt := prs_lt (List.getElem_mem hk)
  have := matP_at h l 0 (prsL l h)[k] hlt (fun j hj => by
    rw [Bool.eq_false_iff]
    intro hmj
    have hin := prs_match o (by omega) hmj
    obtain ⟨j', hj', e⟩ := List.mem_iff_getElem.1 hin
    have hjk : j' < k := by
      apply Classical.byContradiction
      intro hge
      rcases Nat.lt_or_eq_of_le (Nat.le_of_not_lt hge) with h1 | h1
      · have := (List.pairwise_iff_getElem.1 (prs_sorted l h)) k j' hk hj' h1
        omega
      · subst h1; omega
    have := hn j' hjk
    rw [show ruAt l ((prsL l h)[j']'hj') = l[j]'(by omega) by rw [ruAt_at (by omega)]; simp only [e]] at this
    rw [hmj] at this; cases this) (by rw [← ruAt_at hlt]; exact hm)
  unfold mat
  rw [this, Nat.zero_add]
end Go.Proofs.Ytcpcljdnkekogaa
/-
  prune's holding and among: the places of the rules whose prefixes hold a prefix.
-/
namespace Go.Proofs.Ytcpcljdnkekogaa
open Go.RowKit
set_option linter.unusedVariables false
set_option linter.unusedSimpArgs false

def holdK (l : List Ru) (s : Nat × Nat) (k : Nat) : List Nat := (List.range k).filter fun i => witX s (sr (ruAt l i))
theorem holdK_step {l : List Ru} (s : Nat × Nat) {k : Nat} (h : k < l.length) : holdK l s (k + 1) = if witX s (sr l[k]) then holdK l s k ++ [k] else holdK l s k := by
  unfold holdK
  rw [List.range_succ, List.filter_append]
  cases e : witX s (sr l[k]) <;> simp [ruAt_at h, e]
theorem holdK_len (l : List Ru) (s : Nat × Nat) (k : Nat) : (holdK l s k).length ≤ k := Nat.le_trans (List.length_filter_le _ _) (by simp)
theorem ofN_app (a : List Nat) (k : Nat) : ofN (a ++ [k]) = ofN a ++ [(k : Int)] := by simp [ofN]
theorem amg_step {l : List Ru} (ps : List Nat) (d : Nat × Nat) {k : Nat} (h : k < ps.length) : amgL l (ps.take (k + 1)) d = if witX d (ds (ruAt l ps[k])) then amgL l (ps.take k) d ++ [ps[k]] else amgL l (ps.take k) d := by
  unfold amgL
  rw [take_at h, List.filter_append]
  cases e : witX d (ds (ruAt l ps[k])) <;> simp [e]
theorem amg_len (l : List Ru) (ps : List Nat) (d : Nat × Nat) : (amgL l ps d).length ≤ ps.length := List.length_filter_le _ _
set_option maxRecDepth 20000 in
set_option maxHeartbeats 4000000 in
theorem holdingC (l : List Ru) (s : Nat × Nat) (v : Value) (w : World) (hs : SrcU w v l) (hl : l.length ≤ 64) (hb : OkA l) (ho : s.1 < 4294967296) :
    Calls Try.prog 51 #[v, .agg #[.int .u32 (s.1), .int .i64 (s.2)]] w fun e w' => ∃ v' : Value, e = .returned v' ∧ RowI w' w.heap.size v' (ofN (holdL l s)) ∧ Below w.heap.size w w' := by
  have HS : Hid (SrcU w v l) := hs
  have HBd : Hid (OkA l) := hb
  obtain ⟨ad, cap, rfl, hcp, _⟩ := hs
  obtain ⟨n, hn⟩ : ∃ n, n = l.length := ⟨_, rfl⟩
  rw [← hn] at HS hl ⊢
  have Hn : Hid (n = l.length) := hn
  clear hn hb hcp
  obtain ⟨w0, hw0⟩ : ∃ w0, w0 = w.alloc (.cells #[.int .u32 (s.1 : Int), .int .i64 (s.2 : Int)] 39) := ⟨_, rfl⟩
  have Hz0 : Hid (w0.cell? ⟨w.heap.size, 0, none⟩ = some (.int .u32 (s.1 : Int))) := by rw [hw0]; exact blk_cell (blk_new w _) rfl
  have Hz1 : Hid (w0.cell? ⟨w.heap.size, 1, none⟩ = some (.int .i64 (s.2 : Int))) := by rw [hw0]; exact blk_cell (blk_new w _) rfl
  have HB0 : Hid (Below w.heap.size w w0) := by rw [hw0]; exact (Below.refl _ _).alloc (Nat.le_refl _) _
  have Hsz : Hid (w.heap.size < w0.heap.size) := by show w.heap.size < w0.heap.size; rw [hw0]; simp
  have hw0s : w.alloc (.cells #[.int .u32 (s.1 : Int), .int .i64 (s.2 : Int)] 39) = w0 := hw0.symm
  clear hw0
  go_enter Try.func51, Try.ntmps51
  go_wp2_with (fail)
  try simp only [hw0s]
  clear hw0s
  go_loopw [5, 10] (fun sv vi wr => ∃ (k : Nat) (vs : Value), k ≤ n ∧ vs = sv ∧ vi = .int .i64 (k : Int) ∧ Hid (RowI wr w0.heap.size vs (ofN (holdK l s k))) ∧ Hid (Below w0.heap.size w0 wr)) (fun _ vi _ => n - (intOf vi).toNat)
  case atStart => exact ⟨0, _, Nat.zero_le _, rfl, rfl, World.ownsRow_nil _ _ _ _, Below.refl _ _⟩
  case round =>
    obtain ⟨k, vs, hk, rfl, rfl, HR, HB⟩ := hrel
    by_cases hlt : k < n
    · have hlt' : k < l.length := by rw [← Hn.out]; exact hlt
      have hlti : (k : Int) < (n : Int) := by omega
      have HBw : Hid (Below w.heap.size w wr) := bel_of HB0.out HB.out HB0.out.size
      obtain ⟨g, off, rfl, hrg⟩ := (rngU HS.out).2 wr HBw.out k hlt'
      have hbd := HBd.out _ (List.getElem_mem hlt')
      have hst := holdK_step s hlt'
      obtain ⟨p, hp⟩ : ∃ p, p = l[k] := ⟨_, rfl⟩
      rw [← hp] at hrg hbd hst
      obtain ⟨_, hq1, _, hq2⟩ := okR_sr hbd.2 hbd.1
      have Hlen : Hid ((ofN (holdK l s k)).length ≤ 64) := by
        show (ofN (holdK l s k)).length ≤ 64
        rw [ofN_len]; exact Nat.le_trans (holdK_len l s k) (by omega)
      have x0 : wr.cell? ⟨g, off + k * 12, none⟩ = some (.int .i64 p.i) := hrg 0 _ rfl
      have x1 : wr.cell? ⟨g, off + k * 12 + 1, none⟩ = some (.int .u32 (p.s : Int)) := hrg 1 _ rfl
      have x2 : wr.cell? ⟨g, off + k * 12 + 2, none⟩ = some (.int .i64 p.sl) := hrg 2 _ rfl
      have x3 : wr.cell? ⟨g, off + k * 12 + 3, none⟩ = some (.int .u32 (p.d : Int)) := hrg 3 _ rfl
      have x4 : wr.cell? ⟨g, off + k * 12 + 4, none⟩ = some (.int .i64 p.dl) := hrg 4 _ rfl
      have x5 : wr.cell? ⟨g, off + k * 12 + 5, none⟩ = some (.int .u16 (p.p.1 : Int)) := hrg 5 _ rfl
      have x6 : wr.cell? ⟨g, off + k * 12 + 6, none⟩ = some (.int .u16 (p.p.2 : Int)) := hrg 6 _ rfl
      have x7 : wr.cell? ⟨g, off + k * 12 + 7, none⟩ = some (.int .u16 (p.q.1 : Int)) := hrg 7 _ rfl
      have x8 : wr.cell? ⟨g, off + k * 12 + 8, none⟩ = some (.int .u16 (p.q.2 : Int)) := hrg 8 _ rfl
      have x9 : wr.cell? ⟨g, off + k * 12 + 9, none⟩ = some (.int .u8 (p.m.1 : Int)) := hrg 9 _ rfl
      have x10 : wr.cell? ⟨g, off + k * 12 + 10, none⟩ = some (.int .u8 (p.m.2 : Int)) := hrg 10 _ rfl
      have x11 : wr.cell? ⟨g, off + k * 12 + 11, none⟩ = some (.int .i64 p.act) := hrg 11 _ rfl
      have hW := fun W => withinX s (sr p) W ho hbd.1.1
      have hqs : (sr p).1 = p.s := rfl
      rw [hqs, ← hq1] at hW
      have Hst : Hid _ := hst
      obtain ⟨W1, hW1⟩ : ∃ W1, W1 = wr.alloc (.cells #[.int .i64 p.i, .int .u32 (p.s : Int), .int .i64 p.sl, .int .u32 (p.d : Int), .int .i64 p.dl, .int .u16 (p.p.1 : Int), .int .u16 (p.p.2 : Int), .int .u16 (p.q.1 : Int), .int .u16 (p.q.2 : Int), .int .u8 (p.m.1 : Int), .int .u8 (p.m.2 : Int), .int .i64 p.act] 46) := ⟨_, rfl⟩
      have hbW : Below wr.heap.size wr W1 := by rw [hW1]; exact (Below.refl _ _).alloc (Nat.le_refl _) _
      have HR1 : Hid (RowI W1 w0.heap.size vs (ofN (holdK l s k))) := HR.out.on hbW
      have HB1 : Hid (Below w0.heap.size w0 W1) := HB.out.trans (hbW.mono HB.out.size)
      have HX : Hid (W1.heap[wr.heap.size]? = some (.cells #[.int .i64 p.i, .int .u32 (p.s : Int), .int .i64 p.sl, .int .u32 (p.d : Int), .int .i64 p.dl, .int .u16 (p.p.1 : Int), .int .u16 (p.p.2 : Int), .int .u16 (p.q.1 : Int), .int .u16 (p.q.2 : Int), .int .u8 (p.m.1 : Int), .int .u8 (p.m.2 : Int), .int .i64 p.act] 46)) := by rw [hW1]; exact blk_new wr _
      have y1 : W1.cell? ⟨wr.heap.size, 1, none⟩ = some (.int .u32 (p.s : Int)) := blk_cell HX.out rfl
      have y2 : W1.cell? ⟨wr.heap.size, 2, none⟩ = some (.int .i64 p.sl) := blk_cell HX.out rfl
      have z0 := cell_on1 HB1.out Hz0.out
      have z1 := cell_on1 HB1.out Hz1.out
      clear hrg hbd hp hst hq1 hq2 hqs hbW HR HB
      subst hW1
      cases hwi : witX s (sr p) with
      | false =>
        rw [hwi] at hW
        have Hst2 : Hid (holdK l s (k + 1) = holdK l s k) := by have := Hst.out; rw [hwi] at this; exact this
        clear Hst hwi
        go_wp2_with (go_at_call 71; refine (hW _).mono ?_; rintro e w4 ⟨rfl, hb4⟩)
        have HR4 : Hid (RowI w4 w0.heap.size vs (ofN (holdK l s (k + 1)))) := by rw [Hst2.out]; exact HR1.out.on (by assumption)
        have HB4 : Hid (Below w0.heap.size w0 w4) := bel_of HB1.out (by assumption) HB1.out.size
        go_roundw
        case rel => exact ⟨k + 1, _, by omega, rfl, by go_num, HR4.out, HB4.out⟩
        case measure => simp [intOf]; omega
      | true =>
        rw [hwi] at hW
        have Hst2 : Hid (ofN (holdK l s (k + 1)) = ofN (holdK l s k) ++ [(k : Int)]) := by have := Hst.out; rw [hwi] at this; show ofN (holdK l s (k + 1)) = _; rw [this]; exact ofN_app _ _
        clear Hst hwi
        go_wp2_with (go_at_call 71; fail)
        refine (hW _).mono ?_
        rintro e w4 ⟨rfl, hb4⟩
        have HR4 : Hid (RowI w4 w0.heap.size vs (ofN (holdK l s k))) := HR1.out.on hb4
        have HB4 : Hid (Below w0.heap.size w0 w4) := bel_of HB1.out hb4 HB1.out.size
        clear hb4 hW HX HR1 HB1 y1 y2 z0 z1 x0 x1 x2 x3 x4 x5 x6 x7 x8 x9 x10 x11
        have HR5 : Hid (RowI (w4.alloc (.cells #[.int .i64 (k : Int)] 3)) w0.heap.size vs (ofN (holdK l s k))) := HR4.out.on ((Below.refl _ _).alloc (Nat.le_refl _) _)
        have HB5 : Hid (Below w0.heap.size w0 (w4.alloc (.cells #[.int .i64 (k : Int)] 3))) := HB4.out.alloc HB4.out.size _
        have Hone : Hid ((w4.alloc (.cells #[.int .i64 (k : Int)] 3)).cell? ⟨w4.heap.size, 0, none⟩ = some (.int .i64 (k : Int))) := blk_cell (blk_new w4 _) rfl
        have Hlen2 : Hid ((ofN (holdK l s k)).length + 1 ≤ 4294967296) := by have := Hlen.out; show _ ≤ _; omega
        go_wp2_with (at_builtin; refine wpList_appendI rfl (.tmp 19) (.tmp 21) rfl w0.heap.size vs _ rfl HR5.out w4.heap.size (k : Int) rfl Hone.out HB5.out.size Hlen2.out ?_; intro v6 w6 hr6 hg6)
        have HR6 : Hid (RowI w6 w0.heap.size v6 (ofN (holdK l s (k + 1)))) := by rw [Hst2.out]; exact hr6
        have HB6 : Hid (Below w0.heap.size w0 w6) := HB5.out.grown hg6 HB5.out.size (fun q hq => (HR5.out.lt q hq).1)
        clear hr6 hg6
        go_roundw
        case rel => exact ⟨k + 1, _, by omega, rfl, by go_num, HR6.out, HB6.out⟩
        case measure => simp [intOf]; omega
    · obtain rfl : k = n := by omega
      have hni : ¬ (k : Int) < (k : Int) := by omega
      have HR' : Hid (RowI wr w.heap.size vs (ofN (holdL l s))) := by
        have := HR.out
        rw [Hn.out] at this
        exact this.base (Nat.le_of_lt Hsz.out)
      clear HR
      go_wp2
      go_ret
      exact ⟨_, rfl, HR'.out, bel_of HB0.out HB.out HB0.out.size⟩
set_option maxRecDepth 20000 in
set_option maxHeartbeats 4000000 in
theorem amongPC (l : List Ru) (ps : List Nat) (d : Nat × Nat) (v u : Value) (w : World) (hs : SrcU w v l) (hu : SrcI w u (ofN ps)) (hl : l.length ≤ 64) (hpl : ps.length ≤ 64) (hps : ∀ i ∈ ps, i < l.length) (hb : OkA l) (ho : d.1 < 4294967296) :
    Calls Try.prog 72 #[v, u, .agg #[.int .u32 (d.1), .int .i64 (d.2)]] w fun e w' => ∃ v' : Value, e = .returned v' ∧ RowI w' w.heap.size v' (ofN (amgL l ps d)) ∧ Below w.heap.size w w' := by
  have HS : Hid (SrcU w v l) := hs
  have HBd : Hid (OkA l) := hb
  have HPs : Hid (∀ i ∈ ps, i < l.length) := hps
  obtain ⟨ad, cap, rfl, hcp, _⟩ := hs
  obtain ⟨au, cu, rfl⟩ := hu.len
  obtain ⟨n, hn⟩ : ∃ n, n = l.length := ⟨_, rfl⟩
  obtain ⟨m, hm⟩ : ∃ m, m = (ofN ps).length := ⟨_, rfl⟩
  have Hm : Hid (m = ps.length) := by show m = ps.length; rw [hm, ofN_len]
  have HU : Hid (SrcI w (.slice au m cu) (ofN ps)) := by rw [hm]; exact hu
  rw [← hn] at HS hl ⊢
  rw [← hm]
  have Hn : Hid (n = l.length) := hn
  have hm64 : m ≤ 64 := by rw [Hm.out]; exact hpl
  clear hn hb hcp hm hu hps hpl
  obtain ⟨w0, hw0⟩ : ∃ w0, w0 = w.alloc (.cells #[.int .u32 (d.1 : Int), .int .i64 (d.2 : Int)] 39) := ⟨_, rfl⟩
  have Hz0 : Hid (w0.cell? ⟨w.heap.size, 0, none⟩ = some (.int .u32 (d.1 : Int))) := by rw [hw0]; exact blk_cell (blk_new w _) rfl
  have Hz1 : Hid (w0.cell? ⟨w.heap.size, 1, none⟩ = some (.int .i64 (d.2 : Int))) := by rw [hw0]; exact blk_cell (blk_new w _) rfl
  have HB0 : Hid (Below w.heap.size w w0) := by rw [hw0]; exact (Below.refl _ _).alloc (Nat.le_refl _) _
  have Hsz : Hid (w.heap.size < w0.heap.size) := by show w.heap.size < w0.heap.size; rw [hw0]; simp
  have hw0s : w.alloc (.cells #[.int .u32 (d.1 : Int), .int .i64 (d.2 : Int)] 39) = w0 := hw0.symm
  clear hw0
  go_enter Try.func72, Try.ntmps72
  go_wp2_with (fail)
  try simp only [hw0s]
  clear hw0s
  go_loopw [7, 12] (fun sv vi wr => ∃ (k : Nat) (vs : Value), k ≤ m ∧ vs = sv ∧ vi = .int .i64 (k : Int) ∧ Hid (RowI wr w0.heap.size vs (ofN (amgL l (ps.take k) d))) ∧ Hid (Below w0.heap.size w0 wr)) (fun _ vi _ => m - (intOf vi).toNat)
  case atStart => exact ⟨0, _, Nat.zero_le _, rfl, rfl, World.ownsRow_nil _ _ _ _, Below.refl _ _⟩
  case round =>
    obtain ⟨k, vs, hk, rfl, rfl, HR, HB⟩ := hrel
    by_cases hlt : k < m
    · have hlt' : k < ps.length := by rw [← Hm.out]; exact hlt
      have hlti : (k : Int) < (m : Int) := by omega
      have HBw : Hid (Below w.heap.size w wr) := bel_of HB0.out HB.out HB0.out.size
      obtain ⟨gu, ou, rfl, hcu⟩ := SrcI.at (HU.out.keep HBw.out) (k := k) (by rw [ofN_len]; exact hlt')
      rw [ofN_at] at hcu
      have hi := HPs.out _ (List.getElem_mem hlt')
      have hst := amg_step (l := l) ps d hlt'
      obtain ⟨i, hie⟩ : ∃ i, i = ps[k] := ⟨_, rfl⟩
      rw [← hie] at hi hst hcu
      obtain ⟨g, off, rfl, hrg⟩ := (rngU HS.out).2 wr HBw.out i hi
      have hbd := HBd.out _ (List.getElem_mem hi)
      obtain ⟨p, hp⟩ : ∃ p, p = l[i] := ⟨_, rfl⟩
      rw [ruAt_at hi, ← hp] at hst
      rw [← hp] at hrg hbd
      obtain ⟨_, hq1, _, hq2⟩ := okR_sr hbd.2 hbd.1
      have Hlen : Hid ((ofN (amgL l (ps.take k) d)).length ≤ 64) := by
        show (ofN (amgL l (ps.take k) d)).length ≤ 64
        rw [ofN_len]; exact Nat.le_trans (amg_len l _ d) (by rw [List.length_take]; omega)
      have x3 : wr.cell? ⟨g, off + i * 12 + 3, none⟩ = some (.int .u32 (p.d : Int)) := hrg 3 _ rfl
      have x4 : wr.cell? ⟨g, off + i * 12 + 4, none⟩ = some (.int .i64 p.dl) := hrg 4 _ rfl
      have hW := fun W => withinX d (ds p) W ho hbd.1.2.1
      have hqs : (ds p).1 = p.d := rfl
      rw [hqs, ← hq2] at hW
      have Hst : Hid _ := hst
      have z0 := cell_on1 HB.out Hz0.out
      have z1 := cell_on1 HB.out Hz1.out
      have hin : (i : Int) < (n : Int) := by have := Hn.out; omega
      have hgl : g < wr.heap.size := World.block_lt_of_cell? wr _ x3
      have hzl : w.heap.size < wr.heap.size := World.block_lt_of_cell? wr _ z0
      clear hrg hbd hp hst hq1 hq2 hqs hi hie
      go_upto_region 5 with (fail)
      have kne : Nonempty (Kin (wr)) := ⟨⟨_, Below.refl _ _⟩⟩
      have kc0 : ∀ y : Kin (wr), y.val.cell? ⟨g, off + i * 12 + 3, none⟩ = some (.int .u32 (p.d : Int)) := fun y => by rw [kin_cell (by first | omega | (simp <;> omega))]; first | assumption | (simp [go_sem]; done) | simp [go_sem, *]
      have kc1 : ∀ y : Kin (wr), y.val.cell? ⟨g, off + i * 12 + 4, none⟩ = some (.int .i64 p.dl) := fun y => by rw [kin_cell (by first | omega | (simp <;> omega))]; first | assumption | (simp [go_sem]; done) | simp [go_sem, *]
      have kc2 : ∀ y : Kin (wr), y.val.cell? ⟨w.heap.size, 0, none⟩ = some (.int .u32 (d.1 : Int)) := fun y => by rw [kin_cell (by first | omega | (simp <;> omega))]; first | assumption | (simp [go_sem]; done) | simp [go_sem, *]
      have kc3 : ∀ y : Kin (wr), y.val.cell? ⟨w.heap.size, 1, none⟩ = some (.int .i64 (d.2 : Int)) := fun y => by rw [kin_cell (by first | omega | (simp <;> omega))]; first | assumption | (simp [go_sem]; done) | simp [go_sem, *]
      refine wp_region_kin (wr) (Below.refl _ _) (by kernel_rfl) (by kernel_rfl) ?_
      repeat (go_big_quiet_step (first | (go_at_call 71; exact kin_call (hW _))))
      refine wpQuiet_nil ?_
      rintro wq ⟨⟨xq, hxq⟩, hyq⟩
      have hq : Below (wr).heap.size (wr) wq := by rw [hyq]; exact hxq
      clear hyq hxq xq
      clear kne kc0 kc1 kc2 kc3
      obtain ⟨hcq, hfq⟩ := bcell hq
      have hzq := hq.size
      try simp at hzq
      generalize wq = w4 at *
      have HR4 : Hid (RowI w4 w0.heap.size vs (ofN (amgL l (ps.take k) d))) := HR.out.on hq
      have HB4 : Hid (Below w0.heap.size w0 w4) := bel_of HB.out hq HB.out.size
      clear hq hcq hfq hzq hW z0 z1 x3 x4 hcu HR HB hgl hzl
      cases hwi : witX d (ds p) with
      | false =>
        have Hst2 : Hid (amgL l (ps.take (k + 1)) d = amgL l (ps.take k) d) := by have := Hst.out; rw [hwi] at this; exact this
        clear Hst hwi
        go_wp2_with (fail)
        have HR5 : Hid (RowI w4 w0.heap.size vs (ofN (amgL l (ps.take (k + 1)) d))) := by rw [Hst2.out]; exact HR4.out
        go_roundw
        case rel => exact ⟨k + 1, _, by omega, rfl, by go_num, HR5.out, HB4.out⟩
        case measure => simp [intOf]; omega
      | true =>
        have Hst2 : Hid (ofN (amgL l (ps.take (k + 1)) d) = ofN (amgL l (ps.take k) d) ++ [(i : Int)]) := by have := Hst.out; rw [hwi] at this; show ofN (amgL l (ps.take (k + 1)) d) = _; rw [this]; exact ofN_app _ _
        clear Hst hwi
        have HR5 : Hid (RowI (w4.alloc (.cells #[.int .i64 (i : Int)] 3)) w0.heap.size vs (ofN (amgL l (ps.take k) d))) := HR4.out.on ((Below.refl _ _).alloc (Nat.le_refl _) _)
        have HB5 : Hid (Below w0.heap.size w0 (w4.alloc (.cells #[.int .i64 (i : Int)] 3))) := HB4.out.alloc HB4.out.size _
        have Hone : Hid ((w4.alloc (.cells #[.int .i64 (i : Int)] 3)).cell? ⟨w4.heap.size, 0, none⟩ = some (.int .i64 (i : Int))) := blk_cell (blk_new w4 _) rfl
        have Hlen2 : Hid ((ofN (amgL l (ps.take k) d)).length + 1 ≤ 4294967296) := by have := Hlen.out; show _ ≤ _; omega
        go_wp2_with (at_builtin; refine wpList_appendI rfl (.tmp 23) (.tmp 25) rfl w0.heap.size vs _ rfl HR5.out w4.heap.size (i : Int) rfl Hone.out HB5.out.size Hlen2.out ?_; intro v6 w6 hr6 hg6)
        have HR6 : Hid (RowI w6 w0.heap.size v6 (ofN (amgL l (ps.take (k + 1)) d))) := by rw [Hst2.out]; exact hr6
        have HB6 : Hid (Below w0.heap.size w0 w6) := HB5.out.grown hg6 HB5.out.size (fun q hq => (HR5.out.lt q hq).1)
        clear hr6 hg6
        go_roundw
        case rel => exact ⟨k + 1, _, by omega, rfl, by go_num, HR6.out, HB6.out⟩
        case measure => simp [intOf]; omega
    · obtain rfl : k = m := by omega
      have hni : ¬ (k : Int) < (k : Int) := by omega
      have HR' : Hid (RowI wr w.heap.size vs (ofN (amgL l ps d))) := by
        have := HR.out
        rw [Hm.out, List.take_length] at this
        exact this.base (Nat.le_of_lt Hsz.out)
      clear HR
      go_wp2
      go_ret
      exact ⟨_, rfl, HR'.out, bel_of HB0.out HB.out HB0.out.size⟩
end Go.Proofs.Ytcpcljdnkekogaa
/-
  prune's longest and find: along an address to what the longest prefix bears.
-/
namespace Go.Proofs.Ytcpcljdnkekogaa
open Go.RowKit
set_option linter.unusedVariables false
set_option linter.unusedSimpArgs false

/-- The walk along an address: what is borne last, how many nodes. -/
def lngW (N : List Pn) (a : Nat) : Nat → Nat → Nat → Nat → Nat × Nat
  | 0, t, k, v => (v, k)
  | f + 1, t, k, v => match N[t]? with
    | none => (v, k)
    | some x => if x.kid (btv a k) = 0 then (if x.c = 0 then v else x.c, k + 1) else lngW N a f (x.kid (btv a k)) (k + 1) (if x.c = 0 then v else x.c)
def lngR (N : List Pn) (a r : Nat) : Nat × Nat := lngW N a 33 r 0 0
theorem lngW_stop {N : List Pn} {a f t k v : Nat} {x : Pn} (hx : N[t]? = some x) (h : x.kid (btv a k) = 0) : lngW N a (f + 1) t k v = (if x.c = 0 then v else x.c, k + 1) := by
  simp only [lngW, hx, h, if_true]
theorem lngW_go {N : List Pn} {a f t k v : Nat} {x : Pn} (hx : N[t]? = some x) (h : x.kid (btv a k) ≠ 0) : lngW N a (f + 1) t k v = lngW N a f (x.kid (btv a k)) (k + 1) (if x.c = 0 then v else x.c) := by
  simp only [lngW, hx, h, if_false]
theorem kid_on {N : List Pn} {G : List Lab} (hw : Wf N G) {r a k t : Nat} {x : Pn} (hk : k ≤ 32) (hg : G[t]? = some (r, pth a k)) (hx : N[t]? = some x) (h : x.kid (btv a k) ≠ 0) : k < 32 ∧ G[x.kid (btv a k)]? = some (r, pth a (k + 1)) := by
  have h1 : k < 32 := by
    apply Classical.byContradiction
    intro e
    exact h (last_kid hw hg hx (btv_lt a k) e)
  have h2 := hw.up t x r _ _ hx hg (btv_lt a k) h
  refine ⟨h1, ?_⟩
  rw [h2, pth_succ]
  have : btv a k = Pf.tb a k := if_pos h1
  rw [this]
theorem kid_off {N : List Pn} {G : List Lab} (hw : Wf N G) {r a k t : Nat} {x : Pn} (hg : G[t]? = some (r, pth a k)) (hx : N[t]? = some x) (h : x.kid (btv a k) = 0) : ∀ i : Nat, G[i]? ≠ some (r, pth a (k + 1)) :=
  no_kid hw hg hx fun h1 => by
    have : btv a k = Pf.tb a k := if_pos h1
    rw [← this]; exact h
theorem lngW_ok {N : List Pn} {G : List Lab} (hw : Wf N G) {r a : Nat} : ∀ (f k t v : Nat), f + k = 33 → G[t]? = some (r, pth a k) → Lng N G r a k v → Lng N G r a 33 (lngW N a f t k v).1 ∧ (lngW N a f t k v).2 ≤ 33
  | 0, k, t, v, e, hg, L => by
    have := hw.short t r _ hg
    rw [pth_len] at this; omega
  | f + 1, k, t, v, e, hg, L => by
    obtain ⟨x, hx⟩ := hw.node hg
    have L1 := L.step hw hg hx
    by_cases h : x.kid (btv a k) = 0
    · rw [lngW_stop hx h]
      exact ⟨L1.stop hw (by omega) (kid_off hw hg hx h), by show k + 1 ≤ 33; omega⟩
    · rw [lngW_go hx h]
      exact lngW_ok hw f (k + 1) _ _ (by omega) (kid_on hw (by omega) hg hx h).2 L1
theorem lngR_ok {N : List Pn} {G : List Lab} (hw : Wf N G) {r a : Nat} (hg : G[r]? = some (r, [])) : Lng N G r a 33 (lngR N a r).1 ∧ (lngR N a r).2 ≤ 33 := lngW_ok hw 33 0 r 0 rfl (by rw [pth_zero]; exact hg) (Lng.zero ..)
theorem Lng.lt {N : List Pn} {G : List Lab} {r a k v B : Nat} (h : Lng N G r a k v) (hb : ∀ q u, Bs N G r q u → u < B) (h0 : 0 < B) : v < B := by
  rcases h with ⟨e, _⟩ | ⟨j, _, hj, _⟩
  · omega
  · exact hb _ _ hj
/-- A forest that is read, at a place of a block. -/
structure Fo (w : World) (B o : Nat) (nv lv : Value) (vs : List Value) (N : List Pn) (LS : List (List Nat)) : Prop where
  c0 : w.cell? ⟨B, o, none⟩ = some nv
  c1 : w.cell? ⟨B, o + 1, none⟩ = some lv
  fr : Fr w nv lv vs N LS
theorem Fo.on {w w1 : World} {B o : Nat} {nv lv : Value} {vs : List Value} {N : List Pn} {LS : List (List Nat)} (h : Fo w B o nv lv vs N LS) (hb : Below w.heap.size w w1) : Fo w1 B o nv lv vs N LS := ⟨cell_on1 hb h.c0, cell_on1 hb h.c1, h.fr.on hb⟩
theorem Fr.at {w : World} {nv lv : Value} {vs : List Value} {N : List Pn} {LS : List (List Nat)} (h : Fr w nv lv vs N LS) {i : Nat} (x : Pn) (hx : N[i]? = some x) :
    ∃ g cap, nv = .slice (some ⟨g, 0, none⟩) N.length cap ∧ w.cell? ⟨g, i * 3, none⟩ = some (.int .i64 (x.a : Int)) ∧ w.cell? ⟨g, i * 3 + 1, none⟩ = some (.int .i64 (x.b : Int)) ∧ w.cell? ⟨g, i * 3 + 2, none⟩ = some (.int .i64 (x.c : Int)) := by
  have hi := pn_lt hx
  have ex : x = N[i] := by rw [List.getElem?_eq_getElem hi] at hx; exact (Option.some.inj hx).symm
  obtain ⟨ad, cap, rfl, hcap, hat⟩ := h.nod.form
  obtain ⟨g, rfl, _, hg, hc⟩ := hat (by omega)
  have hc1 := hc i hi
  rw [← ex] at hc1
  exact ⟨g, cap, rfl, hc1 0 (by decide), hc1 1 (by decide), hc1 2 (by decide)⟩
set_option maxHeartbeats 4000000 in
set_option maxRecDepth 20000 in
theorem longestC (B o : Nat) (nv lv : Value) (vs : List Value) (N : List Pn) (G : List Lab) (LS : List (List Nat)) (r a : Nat) (w : World) (h : Fo w B o nv lv vs N LS) (hw : Wf N G) (hr : G[r]? = some (r, [])) (ha : a < 4294967296) (hN : N.length ≤ 16777216) :
    Calls Try.prog 37 #[.pointer (some ⟨B, o, none⟩), .int .i64 (r : Int), .int .u32 (a : Int)] w fun e w' => e = .returned (.tuple #[.int .i64 ((lngR N a r).1 : Nat), .int .i64 ((lngR N a r).2 : Nat)]) ∧ Below w.heap.size w w' := by
  have HF : Hid (Fo w B o nv lv vs N LS) := h
  have HW : Hid (Wf N G) := hw
  have HG0 : Hid (G[r]? = some (r, pth a 0)) := hr
  obtain ⟨R, hR⟩ : ∃ R, R = lngR N a r := ⟨_, rfl⟩
  rw [← hR]
  have HR0 : Hid (R = lngW N a 33 r 0 0) := hR
  obtain ⟨n, hn⟩ : ∃ n, n = N.length := ⟨_, rfl⟩
  have Hn : Hid (n = N.length) := hn
  have hnb : (n : Int) ≤ 16777216 := by omega
  clear h hw hr hR hn hN
  go_enter Try.func37, Try.ntmps37
  go_wp2_with (fail)
  go_loopw [6, 7, 8, 9] (fun vb vg va vm wr => ∃ (v k t : Nat) (m : Bool), vb = .int .i64 (v : Int) ∧ vg = .int .i64 (k : Int) ∧ va = .int .i64 (t : Int) ∧ vm = .bool m ∧ k ≤ 33 ∧ Hid (Below w.heap.size w wr) ∧ Hid (m = false → R = (v, k)) ∧ Hid (m = true → k ≤ 32 ∧ R = lngW N a (33 - k) t k v ∧ G[t]? = some (r, pth a k))) (fun _ vg _ vm _ => 40 - (intOf vg).toNat)
  case atStart => exact ⟨0, 0, r, true, rfl, rfl, rfl, rfl, by decide, Below.refl _ _, fun e => (by cases e), fun _ => ⟨by decide, HR0.out, HG0.out⟩⟩
  case round =>
    obtain ⟨v, k, t, m, rfl, rfl, rfl, rfl, hk33, HB, HE, HM⟩ := hrel
    cases m with
    | false =>
      have HE2 : Hid (R = (v, k)) := HE.out rfl
      clear HE HM
      go_wp2
      go_ret2
      exact ⟨by rw [HE2.out]; rfl, HB.out⟩
    | true =>
      obtain ⟨hk, hRk, hg⟩ := HM.out rfl
      obtain ⟨x, hx⟩ := HW.out.node hg
      have hfu : 33 - k = (32 - k) + 1 := by omega
      rw [hfu] at hRk
      obtain ⟨g, cap, rfl, c0, c1, c2⟩ := (HF.out.on HB.out).fr.at x hx
      have f0 := (HF.out.on HB.out).c0
      rw [← Hn.out] at f0
      have htn : (t : Int) < (n : Int) := by have := pn_lt hx; have := Hn.out; omega
      have hA := fun W => atBC a k W ha (by omega)
      have hB2 := btv_lt a k
      have Hon : Hid (x.kid (btv a k) ≠ 0 → k < 32 ∧ R = lngW N a (33 - (k + 1)) (x.kid (btv a k)) (k + 1) (if x.c = 0 then v else x.c) ∧ G[x.kid (btv a k)]? = some (r, pth a (k + 1))) := fun e => by
        have h1 := kid_on HW.out hk hg hx e
        exact ⟨h1.1, by rw [show 33 - (k + 1) = 32 - k by omega, hRk, lngW_go hx e], h1.2⟩
      have Hoff : Hid (x.kid (btv a k) = 0 → R = (if x.c = 0 then v else x.c, k + 1)) := fun e => by rw [hRk, lngW_stop hx e]
      have hw3 : Below wr.heap.size wr (wr.alloc (.cells #[.int .i64 (x.a : Int), .int .i64 (x.b : Int), .int .i64 (x.c : Int)] 115)) := (Below.refl _ _).alloc (Nat.le_refl _) _
      have HB3 : Hid (Below w.heap.size w (wr.alloc (.cells #[.int .i64 (x.a : Int), .int .i64 (x.b : Int), .int .i64 (x.c : Int)] 115))) := HB.out.trans (hw3.mono HB.out.size)
      have y0 : (wr.alloc (.cells #[.int .i64 (x.a : Int), .int .i64 (x.b : Int), .int .i64 (x.c : Int)] 115)).cell? ⟨wr.heap.size, 0, none⟩ = some (.int .i64 (x.a : Int)) := blk_cell (blk_new wr _) rfl
      have y1 : (wr.alloc (.cells #[.int .i64 (x.a : Int), .int .i64 (x.b : Int), .int .i64 (x.c : Int)] 115)).cell? ⟨wr.heap.size, 1, none⟩ = some (.int .i64 (x.b : Int)) := blk_cell (blk_new wr _) rfl
      have y2 : (wr.alloc (.cells #[.int .i64 (x.a : Int), .int .i64 (x.b : Int), .int .i64 (x.c : Int)] 115)).cell? ⟨wr.heap.size, 2, none⟩ = some (.int .i64 (x.c : Int)) := blk_cell (blk_new wr _) rfl
      clear hRk hg hx hfu HE HM HB hw3
      rcases (show btv a k = 0 ∨ btv a k = 1 by omega) with hbt | hbt
      · by_cases hc : x.c = 0
        · by_cases hkd : x.kid 0 = 0
          · have HF2 : Hid _ := Hoff.out
            have HE3 : Hid (R = (v, k + 1)) := by have := Hoff.out (by rw [hbt]; exact hkd); rw [if_pos hc] at this; exact this
            have hci : ((x.c : Int) != 0) = false := by rw [hc]; rfl
            have hki : ((x.a : Int) != 0) = false := by rw [show x.a = 0 from hkd]; rfl
            rw [hbt] at hA
            clear Hon Hoff hc hkd hbt hB2 HF2
            go_wp2_with (go_at_call 52; refine (hA _).mono ?_; rintro e w4 ⟨er, rfl, hw4⟩; obtain rfl := hw4.symm; clear hw4)
            go_roundw
            case rel => exact ⟨v, k + 1, x.a, false, rfl, by go_num, rfl, rfl, by omega, HB3.out, fun _ => HE3.out, fun e => (by cases e)⟩
            case measure => simp [intOf]; omega
          · have HF2 : Hid _ := Hon.out
            have HE3 : Hid (k + 1 ≤ 32 ∧ R = lngW N a (33 - (k + 1)) x.a (k + 1) v ∧ G[x.a]? = some (r, pth a (k + 1))) := by have := Hon.out (by rw [hbt]; exact hkd); rw [if_pos hc] at this; rw [hbt] at this; exact ⟨this.1, this.2⟩
            have hci : ((x.c : Int) != 0) = false := by rw [hc]; rfl
            have hki : ((x.a : Int) != 0) = true := by simpa using (show x.a ≠ 0 from hkd)
            rw [hbt] at hA
            clear Hon Hoff hc hkd hbt hB2 HF2
            go_wp2_with (go_at_call 52; refine (hA _).mono ?_; rintro e w4 ⟨er, rfl, hw4⟩; obtain rfl := hw4.symm; clear hw4)
            go_roundw
            case rel => exact ⟨v, k + 1, x.a, true, rfl, by go_num, rfl, rfl, by omega, HB3.out, fun e => (by cases e), fun _ => HE3.out⟩
            case measure => simp [intOf]; omega
        · by_cases hkd : x.kid 0 = 0
          · have HF2 : Hid _ := Hoff.out
            have HE3 : Hid (R = (x.c, k + 1)) := by have := Hoff.out (by rw [hbt]; exact hkd); rw [if_neg hc] at this; exact this
            have hci : ((x.c : Int) != 0) = true := by simpa using hc
            have hki : ((x.a : Int) != 0) = false := by rw [show x.a = 0 from hkd]; rfl
            rw [hbt] at hA
            clear Hon Hoff hc hkd hbt hB2 HF2
            go_wp2_with (go_at_call 52; refine (hA _).mono ?_; rintro e w4 ⟨er, rfl, hw4⟩; obtain rfl := hw4.symm; clear hw4)
            go_roundw
            case rel => exact ⟨x.c, k + 1, x.a, false, rfl, by go_num, rfl, rfl, by omega, HB3.out, fun _ => HE3.out, fun e => (by cases e)⟩
            case measure => simp [intOf]; omega
          · have HF2 : Hid _ := Hon.out
            have HE3 : Hid (k + 1 ≤ 32 ∧ R = lngW N a (33 - (k + 1)) x.a (k + 1) x.c ∧ G[x.a]? = some (r, pth a (k + 1))) := by have := Hon.out (by rw [hbt]; exact hkd); rw [if_neg hc] at this; rw [hbt] at this; exact ⟨this.1, this.2⟩
            have hci : ((x.c : Int) != 0) = true := by simpa using hc
            have hki : ((x.a : Int) != 0) = true := by simpa using (show x.a ≠ 0 from hkd)
            rw [hbt] at hA
            clear Hon Hoff hc hkd hbt hB2 HF2
            go_wp2_with (go_at_call 52; refine (hA _).mono ?_; rintro e w4 ⟨er, rfl, hw4⟩; obtain rfl := hw4.symm; clear hw4)
            go_roundw
            case rel => exact ⟨x.c, k + 1, x.a, true, rfl, by go_num, rfl, rfl, by omega, HB3.out, fun e => (by cases e), fun _ => HE3.out⟩
            case measure => simp [intOf]; omega
      · by_cases hc : x.c = 0
        · by_cases hkd : x.kid 1 = 0
          · have HF2 : Hid _ := Hoff.out
            have HE3 : Hid (R = (v, k + 1)) := by have := Hoff.out (by rw [hbt]; exact hkd); rw [if_pos hc] at this; exact this
            have hci : ((x.c : Int) != 0) = false := by rw [hc]; rfl
            have hki : ((x.b : Int) != 0) = false := by rw [show x.b = 0 from hkd]; rfl
            rw [hbt] at hA
            clear Hon Hoff hc hkd hbt hB2 HF2
            go_wp2_with (go_at_call 52; refine (hA _).mono ?_; rintro e w4 ⟨er, rfl, hw4⟩; obtain rfl := hw4.symm; clear hw4)
            go_roundw
            case rel => exact ⟨v, k + 1, x.b, false, rfl, by go_num, rfl, rfl, by omega, HB3.out, fun _ => HE3.out, fun e => (by cases e)⟩
            case measure => simp [intOf]; omega
          · have HF2 : Hid _ := Hon.out
            have HE3 : Hid (k + 1 ≤ 32 ∧ R = lngW N a (33 - (k + 1)) x.b (k + 1) v ∧ G[x.b]? = some (r, pth a (k + 1))) := by have := Hon.out (by rw [hbt]; exact hkd); rw [if_pos hc] at this; rw [hbt] at this; exact ⟨this.1, this.2⟩
            have hci : ((x.c : Int) != 0) = false := by rw [hc]; rfl
            have hki : ((x.b : Int) != 0) = true := by simpa using (show x.b ≠ 0 from hkd)
            rw [hbt] at hA
            clear Hon Hoff hc hkd hbt hB2 HF2
            go_wp2_with (go_at_call 52; refine (hA _).mono ?_; rintro e w4 ⟨er, rfl, hw4⟩; obtain rfl := hw4.symm; clear hw4)
            go_roundw
            case rel => exact ⟨v, k + 1, x.b, true, rfl, by go_num, rfl, rfl, by omega, HB3.out, fun e => (by cases e), fun _ => HE3.out⟩
            case measure => simp [intOf]; omega
        · by_cases hkd : x.kid 1 = 0
          · have HF2 : Hid _ := Hoff.out
            have HE3 : Hid (R = (x.c, k + 1)) := by have := Hoff.out (by rw [hbt]; exact hkd); rw [if_neg hc] at this; exact this
            have hci : ((x.c : Int) != 0) = true := by simpa using hc
            have hki : ((x.b : Int) != 0) = false := by rw [show x.b = 0 from hkd]; rfl
            rw [hbt] at hA
            clear Hon Hoff hc hkd hbt hB2 HF2
            go_wp2_with (go_at_call 52; refine (hA _).mono ?_; rintro e w4 ⟨er, rfl, hw4⟩; obtain rfl := hw4.symm; clear hw4)
            go_roundw
            case rel => exact ⟨x.c, k + 1, x.b, false, rfl, by go_num, rfl, rfl, by omega, HB3.out, fun _ => HE3.out, fun e => (by cases e)⟩
            case measure => simp [intOf]; omega
          · have HF2 : Hid _ := Hon.out
            have HE3 : Hid (k + 1 ≤ 32 ∧ R = lngW N a (33 - (k + 1)) x.b (k + 1) x.c ∧ G[x.b]? = some (r, pth a (k + 1))) := by have := Hon.out (by rw [hbt]; exact hkd); rw [if_neg hc] at this; rw [hbt] at this; exact ⟨this.1, this.2⟩
            have hci : ((x.c : Int) != 0) = true := by simpa using hc
            have hki : ((x.b : Int) != 0) = true := by simpa using (show x.b ≠ 0 from hkd)
            rw [hbt] at hA
            clear Hon Hoff hc hkd hbt hB2 HF2
            go_wp2_with (go_at_call 52; refine (hA _).mono ?_; rintro e w4 ⟨er, rfl, hw4⟩; obtain rfl := hw4.symm; clear hw4)
            go_roundw
            case rel => exact ⟨x.c, k + 1, x.b, true, rfl, by go_num, rfl, rfl, by omega, HB3.out, fun e => (by cases e), fun _ => HE3.out⟩
            case measure => simp [intOf]; omega
end Go.Proofs.Ytcpcljdnkekogaa
/-
  prune's find and entries; the stock's first.
-/
namespace Go.Proofs.Ytcpcljdnkekogaa
open Go.RowKit
set_option linter.unusedVariables false
set_option linter.unusedSimpArgs false

/-- How many nodes find goes through. -/
def fndN (N : List Pn) (h : Hd) : Nat := if N.length = 0 then 0 else if (lngR N h.s 0).1 = 0 then (lngR N h.s 0).2 else (lngR N h.s 0).2 + (lngR N h.d (lngR N h.s 0).1).2
/-- The list that find tells. -/
def fndV (N : List Pn) (vs : List Value) (h : Hd) : Value := if N.length = 0 then .slice none 0 0 else if (lngR N h.s 0).1 = 0 then .slice none 0 0 else if (lngR N h.d (lngR N h.s 0).1).1 = 0 then .slice none 0 0 else vs.getD ((lngR N h.d (lngR N h.s 0).1).1 - 1) (.slice none 0 0)
theorem fndN_le {l : List Ru} {N : List Pn} {LS : List (List Nat)} (P : Plt l N LS) (o : OkA l) {h : Hd} (oh : OkH h) : fndN N h ≤ 66 := by
  unfold fndN
  rcases P with ⟨rfl, rfl, rfl⟩ | ⟨_, G, P⟩
  · simp
  · obtain ⟨L1, k1⟩ := lngR_ok P.wf (a := h.s) P.root
    split
    · omega
    · split
      · omega
      · rename_i e
        rcases P.src o oh.1 L1 with ⟨e0, _⟩ | ⟨_, s, _, _, hH, _⟩
        · exact absurd e0 e
        · have := (lngR_ok P.wf (a := h.d) hH.2.1).2
          omega
theorem Pla.ne {l : List Ru} {N : List Pn} {G : List Lab} {LS : List (List Nat)} (h : Pla (l.map sr) (tgL l) (lsL l) l.length N G LS) : N.length ≠ 0 := by
  have := pn_lt h.root; have := h.wf.len; omega
theorem Fr.list {w : World} {nv lv : Value} {vs : List Value} {N : List Pn} {LS : List (List Nat)} (h : Fr w nv lv vs N LS) {i : Nat} {L : List Nat} (hL : LS[i]? = some L) :
    ∃ g cap u, lv = .slice (some ⟨g, 0, none⟩) LS.length cap ∧ w.cell? ⟨g, i, none⟩ = some u ∧ SrcI w u (ofN L) ∧ u = vs.getD i (.slice none 0 0) := by
  have hi : i < vs.length := by rw [h.len]; exact pn_lt hL
  obtain ⟨ad, cap, rfl, hcap, hat⟩ := h.lst.form
  obtain ⟨g, rfl, _, hc⟩ := hat (by omega)
  exact ⟨g, cap, vs[i], by rw [h.len], hc i hi, h.src i _ L (List.getElem?_eq_getElem hi) hL, by simp [hi]⟩
set_option maxHeartbeats 4000000 in
set_option maxRecDepth 20000 in
theorem findFC (B o : Nat) (nv lv : Value) (vs : List Value) (N : List Pn) (LS : List (List Nat)) (l : List Ru) (h : Hd) (w : World) (hF : Fo w B o nv lv vs N LS) (P : Plt l N LS) (ok : OkA l) (oh : OkH h) (hN : N.length ≤ 16777216) (hLS : LS.length ≤ 16777216) :
    Calls Try.prog 24 #[.pointer (some ⟨B, o, none⟩), .agg #[.int .u32 (h.s : Int), .int .u32 (h.d : Int), .int .u16 (h.p : Int), .int .u16 (h.q : Int), .int .u8 (h.r : Int)]] w fun e w' => e = .returned (.tuple #[fndV N vs h, .int .i64 (fndN N h : Nat)]) ∧ Below w.heap.size w w' := by
  have HF : Hid (Fo w B o nv lv vs N LS) := hF
  have hb0 : Below w.heap.size w (w.alloc (.cells #[.int .u32 (h.s : Int), .int .u32 (h.d : Int), .int .u16 (h.p : Int), .int .u16 (h.q : Int), .int .u8 (h.r : Int)] 55)) := (Below.refl _ _).alloc (Nat.le_refl _) _
  have HB0 : Hid (Below w.heap.size w (w.alloc (.cells #[.int .u32 (h.s : Int), .int .u32 (h.d : Int), .int .u16 (h.p : Int), .int .u16 (h.q : Int), .int .u8 (h.r : Int)] 55))) := hb0
  have z0 : (w.alloc (.cells #[.int .u32 (h.s : Int), .int .u32 (h.d : Int), .int .u16 (h.p : Int), .int .u16 (h.q : Int), .int .u8 (h.r : Int)] 55)).cell? ⟨w.heap.size, 0, none⟩ = some (.int .u32 (h.s : Int)) := blk_cell (blk_new w _) rfl
  have z1 : (w.alloc (.cells #[.int .u32 (h.s : Int), .int .u32 (h.d : Int), .int .u16 (h.p : Int), .int .u16 (h.q : Int), .int .u8 (h.r : Int)] 55)).cell? ⟨w.heap.size, 1, none⟩ = some (.int .u32 (h.d : Int)) := blk_cell (blk_new w _) rfl
  have hF0 := hF.on hb0
  have f0 := hF0.c0
  have f1 := hF0.c1
  obtain ⟨ad, cap, hnv, hcap, _⟩ := hF.fr.nod.form
  subst hnv
  obtain ⟨n, hn⟩ : ∃ n, n = N.length := ⟨_, rfl⟩
  have Hn : Hid (n = N.length) := hn
  rcases P with ⟨e1, e2, e3⟩ | ⟨hne, G, P⟩
  · have hn0 : N.length = 0 := by rw [e2]; rfl
    have Hk : Hid (fndN N h = 0) := if_pos hn0
    have Hp : Hid (fndV N vs h = .slice none 0 0) := if_pos hn0
    rw [hn0] at f0
    clear e1 e2 e3 hF hF0 hn hn0
    go_enter Try.func24, Try.ntmps24
    go_wp2
    go_ret2
    exact ⟨by rw [Hk.out, Hp.out]; rfl, HB0.out⟩
  · have hn1 := P.ne
    have hni : ((n : Int) == 0) = false := by rw [beq_eq_false_iff_ne]; omega
    obtain ⟨L1, k1⟩ := lngR_ok P.wf (a := h.s) P.root
    have hC1 := fun W (hb : Below w.heap.size w W) => longestC B o _ lv vs N G LS 0 h.s W (HF.out.on hb) P.wf P.root oh.1 hN
    have hS := P.src ok oh.1 L1
    rw [← hn] at f0
    by_cases e1 : (lngR N h.s 0).1 = 0
    · have Hk : Hid (fndN N h = (lngR N h.s 0).2) := by show fndN N h = _; unfold fndN; rw [if_neg hn1, if_pos e1]
      have Hp : Hid (fndV N vs h = .slice none 0 0) := by show fndV N vs h = _; unfold fndV; rw [if_neg hn1, if_pos e1]
      rw [e1] at hC1
      clear hS L1 P hF hF0 e1 hn1 hn
      generalize (lngR N h.s 0).2 = K1 at *
      go_enter Try.func24, Try.ntmps24
      go_wp2_with (go_at_call 37; refine (hC1 _ HB0.out).mono ?_; rintro e w4 ⟨rfl, hb4⟩)
      go_ret2
      exact ⟨by rw [Hk.out, Hp.out]; rfl, bel_of HB0.out (by assumption) HB0.out.size⟩
    · obtain ⟨s, hs1, hs2, hH, hs3⟩ : ∃ d ∈ l.map sr, hasX d h.s = true ∧ Hung N G LS (lngR N h.s 0).1 (tgL l d) (lsL l d) ∧ ∀ t ∈ l.map sr, hasX t h.s = true → t.2 ≤ d.2 := by
        rcases hS with ⟨e2, _⟩ | ⟨_, hS⟩
        · exact absurd e2 e1
        · exact hS
      obtain ⟨L2, k2⟩ := lngR_ok P.wf (a := h.d) hH.2.1
      have hC2 := fun W (hb : Below w.heap.size w W) => longestC B o _ lv vs N G LS (lngR N h.s 0).1 h.d W (HF.out.on hb) P.wf hH.2.1 oh.2.1 hN
      have hD := hH.dst ok oh.2.1 L2
      have Hk : Hid (fndN N h = (lngR N h.s 0).2 + (lngR N h.d (lngR N h.s 0).1).2) := by show fndN N h = _; unfold fndN; rw [if_neg hn1, if_neg e1]
      have he1 : ((((lngR N h.s 0).1 : Nat) : Int) == 0) = false := by rw [beq_eq_false_iff_ne]; omega
      by_cases e2 : (lngR N h.d (lngR N h.s 0).1).1 = 0
      · have Hp : Hid (fndV N vs h = .slice none 0 0) := by show fndV N vs h = _; unfold fndV; rw [if_neg hn1, if_neg e1, if_pos e2]
        rw [e2] at hC2
        clear hS L1 P hF hF0 e1 hn1 hn hD L2 hH hs1 hs2 hs3 e2
        generalize (lngR N h.d (lngR N h.s 0).1).2 = K2 at *
        generalize (lngR N h.s 0).2 = K1 at *
        generalize (lngR N h.s 0).1 = V1 at *
        go_enter Try.func24, Try.ntmps24
        go_wp2_with (go_at_call 37; first | (refine (hC1 _ HB0.out).mono ?_; rintro e w4 ⟨rfl, hb4⟩; have z1' := cell_on1 hb4 z1; have HB4 : Hid (Below w.heap.size w w4) := bel_of HB0.out hb4 HB0.out.size; clear hb4 hC1) | (refine (hC2 _ HB4.out).mono ?_; rintro e w5 ⟨rfl, hb5⟩))
        go_ret2
        exact ⟨by rw [Hk.out, Hp.out]; go_num, bel_of HB4.out (by assumption) HB4.out.size⟩
      · obtain ⟨d, hd1, hd2, hd3, hd4⟩ : ∃ d ∈ tgL l s, hasX d h.d = true ∧ LS[(lngR N h.d (lngR N h.s 0).1).1 - 1]? = some (lsL l s d) ∧ ∀ t ∈ tgL l s, hasX t h.d = true → t.2 ≤ d.2 := by
          rcases hD with ⟨e3, _⟩ | ⟨_, hD⟩
          · exact absurd e3 e2
          · exact hD
        rw [prs_some ok hs1 hs2 hs3 hd1 hd2 hd4] at hd3
        obtain ⟨V2, hV2⟩ : ∃ V2, (lngR N h.d (lngR N h.s 0).1).1 = V2 + 1 := ⟨(lngR N h.d (lngR N h.s 0).1).1 - 1, by omega⟩
        rw [hV2] at hC2 hd3
        rw [Nat.add_sub_cancel] at hd3
        have hv2 := pn_lt hd3
        have Hp : Hid (fndV N vs h = vs.getD V2 (.slice none 0 0)) := by show fndV N vs h = _; unfold fndV; rw [if_neg hn1, if_neg e1, if_neg e2, hV2, Nat.add_sub_cancel]
        obtain ⟨g2, cap2, _, hlv, _, _, _⟩ := hF.fr.list hd3
        subst hlv
        have HL : Hid (∀ W, Below w.heap.size w W → W.cell? ⟨g2, V2, none⟩ = some (fndV N vs h)) := fun W hb => by
          obtain ⟨g3, cap3, u, e3, c3, s3, u3⟩ := (HF.out.on hb).fr.list hd3
          cases e3
          rw [Hp.out, ← u3]; exact c3
        have HF1 : Hid (∀ W, Below w.heap.size w W → W.cell? ⟨B, o + 1, none⟩ = some (.slice (some ⟨g2, 0, none⟩) LS.length cap2)) := fun W hb => (HF.out.on hb).c1
        obtain ⟨m, hm⟩ : ∃ m, m = LS.length := ⟨_, rfl⟩
        rw [← hm] at hv2 f1 HF1 hLS
        have hmi : (V2 : Int) < (m : Int) := by omega
        have hm3 : (m : Int) ≤ 16777216 := by omega
        obtain ⟨fv, hfv⟩ : ∃ fv, fv = fndV N vs h := ⟨_, rfl⟩
        rw [← hfv] at HL ⊢
        have Hsh : Hid (∃ a n c, fv = .slice a n c) := by
          obtain ⟨_, _, u, _, _, s3, u3⟩ := HF.out.fr.list hd3
          obtain ⟨a, c, e⟩ := s3.len
          exact ⟨a, _, c, by rw [hfv, Hp.out, ← u3, e]⟩
        obtain ⟨fa, fn, fc, hfe⟩ := Hsh.out
        subst hfe
        clear hS L1 P hF hF0 e1 hn1 hn hD L2 hH hs1 hs2 hs3 e2 hd1 hd2 hd3 hd4 hV2 f1 hfv Hp Hsh
        generalize (lngR N h.d (lngR N h.s 0).1).2 = K2 at *
        generalize (lngR N h.s 0).2 = K1 at *
        generalize (lngR N h.s 0).1 = V1 at *
        have hb2 : (((V2 + 1 : Nat) : Int) == 0) = false := by rw [beq_eq_false_iff_ne]; omega
        go_enter Try.func24, Try.ntmps24
        go_wp2_with (go_at_call 37; first | (refine (hC1 _ HB0.out).mono ?_; rintro e w4 ⟨rfl, hb4⟩; have z1' := cell_on1 hb4 z1; have HB4 : Hid (Below w.heap.size w w4) := bel_of HB0.out hb4 HB0.out.size; clear hb4 hC1) | (refine (hC2 _ HB4.out).mono ?_; rintro e w5 ⟨rfl, hb5⟩; have HB5 : Hid (Below w.heap.size w w5) := bel_of HB4.out hb5 HB4.out.size; have cu5 := HL.out w5 HB5.out; have f5 := HF1.out w5 HB5.out; clear hb5 hC2))
        go_ret2
        exact ⟨by rw [Hk.out]; go_num, HB5.out⟩
theorem fndV_src {w : World} {nv lv : Value} {vs : List Value} {N : List Pn} {LS : List (List Nat)} {l : List Ru} {h : Hd} (hF : Fr w nv lv vs N LS) (P : Plt l N LS) (ok : OkA l) (oh : OkH h) : SrcI w (fndV N vs h) (ofN (prsL l h)) := by
  unfold fndV
  rcases P with ⟨e1, e2, e3⟩ | ⟨hne, G, P⟩
  · rw [if_pos (by rw [e2]; rfl), e1]; exact (RowI.nil w 0).src
  · rw [if_neg P.ne]
    obtain ⟨L1, k1⟩ := lngR_ok P.wf (a := h.s) P.root
    rcases P.src ok oh.1 L1 with ⟨e1, hS⟩ | ⟨e1, s, hs1, hs2, hH, hs3⟩
    · rw [if_pos e1, prs_none1 hS]; exact (RowI.nil w 0).src
    · rw [if_neg e1]
      obtain ⟨L2, k2⟩ := lngR_ok P.wf (a := h.d) hH.2.1
      rcases hH.dst ok oh.2.1 L2 with ⟨e2, hD⟩ | ⟨e2, d, hd1, hd2, hd3, hd4⟩
      · rw [if_pos e2, prs_none2 ok hs1 hs2 hs3 hD]; exact (RowI.nil w 0).src
      · rw [if_neg e2]
        rw [prs_some ok hs1 hs2 hs3 hd1 hd2 hd4] at hd3
        obtain ⟨_, _, u, _, _, s3, u3⟩ := hF.list hd3
        rw [← u3]; exact s3
theorem fndV_sh {w : World} {nv lv : Value} {vs : List Value} {N : List Pn} {LS : List (List Nat)} {l : List Ru} {h : Hd} (hF : Fr w nv lv vs N LS) (P : Plt l N LS) (ok : OkA l) (oh : OkH h) : ∃ a c, fndV N vs h = .slice a (prsL l h).length c := by
  obtain ⟨a, c, e⟩ := (fndV_src hF P ok oh).len
  rw [ofN_len] at e
  exact ⟨a, c, e⟩
end Go.Proofs.Ytcpcljdnkekogaa
/-
  prune's hang: the trie of the destinations of rules.
-/
namespace Go.Proofs.Ytcpcljdnkekogaa
open Go.RowKit
set_option linter.unusedVariables false
set_option linter.unusedSimpArgs false

theorem Ki.row {w w1 : World} {F : Nat} {nv lv v : Value} {vs : List Value} {N : List Pn} {LS : List (List Nat)} {l : List Int} (h : Fs w F nv lv vs N LS) (hr : RowI w1 w.heap.size v l) : Ki w1 F nv lv v l :=
  ⟨hr.src, fun k e => (hr.lt k e).2, fun k e o => by have := (hr.lt k e).1; have := h.own o; omega⟩
theorem Fs.at2 {w : World} {F g n cap : Nat} {lv : Value} {vs : List Value} {N : List Pn} {LS : List (List Nat)} (h : Fs w F (.slice (some ⟨g, 0, none⟩) n cap) lv vs N LS) {i : Nat} (x : Pn) (hx : N[i]? = some x) :
    w.cell? ⟨g, i * 3 + 2, none⟩ = some (.int .i64 (x.c : Int)) ∧ (∀ j, w.frozen? ⟨g, j, none⟩ = false) ∧ (x = N[i]'(pn_lt hx)) := by
  obtain ⟨g', cap', e, _, _, _, c2, hz, hxe⟩ := h.at x hx
  injection e with e1 e2 e3
  injection e1 with e1
  injection e1 with e1
  subst e1
  exact ⟨c2, hz, hxe⟩
/-- What came new into a list of values lies in blocks that are new. -/
def Nw (w : World) (vs vs' : List Value) : Prop := ∀ v ∈ vs', v ∈ vs ∨ ∀ k, v.ownBlock = some k → w.heap.size ≤ k
theorem Nw.more {w : World} {vs vs' : List Value} {y : Value} (h : Nw w vs vs') (hy : ∀ k, y.ownBlock = some k → w.heap.size ≤ k) : Nw w vs (vs' ++ [y]) := fun v hv => by
  rcases List.mem_append.1 hv with hv | hv
  · exact h v hv
  · rw [List.mem_singleton.1 hv]; exact .inr hy
theorem RowI.one1 {w : World} {b : Nat} {v : Value} {l : List Int} (h : RowI w b v l) : v.oneCell' = true := by
  obtain ⟨ad, cap, rfl, _⟩ := h.form; rfl
theorem dsL_at {l : List Ru} {ps : List Nat} {k : Nat} (h : k < ps.length) (h' : k < (dsL l ps).length) : (dsL l ps)[k] = ds (ruAt l ps[k]) := by simp [dsL]
theorem dsL_len (l : List Ru) (ps : List Nat) : (dsL l ps).length = ps.length := by simp [dsL]
theorem dsL_ok {l : List Ru} (o : OkA l) {ps : List Nat} (h : ∀ i ∈ ps, i < l.length) : ∀ d ∈ dsL l ps, Okx d := fun d hd => by
  obtain ⟨i, hi, rfl⟩ := List.mem_map.1 hd
  exact okx_of (o.at (h i hi)).2

set_option maxHeartbeats 8000000 in
set_option maxRecDepth 20000 in
theorem hangC (F : Nat) (nv lv : Value) (vs : List Value) (N : List Pn) (G : List Lab) (LS : List (List Nat)) (l : List Ru) (ps : List Nat) (v u : Value) (w : World) (h : Fs w F nv lv vs N LS) (hw : Wf N G) (hv : Ku w F nv lv v l) (hu : Ki w F nv lv u (ofN ps))
    (ok : OkA l) (hl : l.length ≤ 64) (hpl : ps.length ≤ 64) (hps : ∀ i ∈ ps, i < l.length) (hN : N.length ≤ 8388608) (hLS : LS.length ≤ 8388608) :
    Calls Try.prog 50 #[.pointer (some ⟨F, 0, none⟩), v, u] w fun e w' => ∃ (N' : List Pn) (G' : List Lab) (LS' : List (List Nat)), e = .returned (.int .i64 (N.length : Int)) ∧ Hng N G LS N.length (dsL l ps) (amgL l ps) (dsL l ps).length N' G' LS' ∧ ∃ (nv' lv' : Value) (vs' : List Value), Fs w' F nv' lv' vs' N' LS' ∧ Fm w w' F nv lv nv' lv' ∧ Nw w vs vs' := by
  have hG := growC F nv lv vs N LS w h (by omega)
  have HZ : Hid (Hng N G LS N.length (dsL l ps) (amgL l ps) 0 (N ++ [pz]) (G ++ [(N.length, [])]) LS) := Hng.zero hw LS _ _
  have HU : Hid (Ki w F nv lv u (ofN ps)) := hu
  have HV : Hid (Ku w F nv lv v l) := hv
  have Hok : Hid (OkA l) := ok
  have HPs : Hid (∀ i ∈ ps, i < l.length) := hps
  have HNb : Hid (N.length ≤ 8388608) := hN
  have HLb : Hid (LS.length ≤ 8388608) := hLS
  have Hgl : Hid (N.length = G.length) := hw.len
  have HDok : Hid (∀ d ∈ dsL l ps, Okx d) := dsL_ok ok hps
  have HDl : Hid ((dsL l ps).length = ps.length) := dsL_len l ps
  have Hl : Hid (l.length ≤ 64) := hl
  have Hpl : Hid (ps.length ≤ 64) := hpl
  obtain ⟨adv, capv, hve, _⟩ := hv.1
  obtain ⟨au, cu, hue⟩ := hu.1.len
  subst hve hue
  obtain ⟨n, hn⟩ : ∃ n, n = l.length := ⟨_, rfl⟩
  obtain ⟨m, hm⟩ : ∃ m, m = (ofN ps).length := ⟨_, rfl⟩
  obtain ⟨r, hr⟩ : ∃ r, r = N.length := ⟨_, rfl⟩
  have Hn : Hid (n = l.length) := hn
  have Hm : Hid (m = ps.length) := by show m = ps.length; rw [hm, ofN_len]
  have hm64 : m ≤ 64 := by rw [Hm.out]; exact hpl
  have hrb : r ≤ 8388608 := by rw [hr]; exact hN
  rw [← hn] at HV ⊢
  rw [← hm] at HU ⊢
  rw [← hr] at HZ hG ⊢
  have Hr : Hid (r = N.length) := hr
  clear h hw hv hu ok hl hpl hps hN hLS hn hm hr
  go_enter Try.func50, Try.ntmps50
  go_wp2_with (go_at_call 48; fail)
  refine hG.mono ?_
  rintro e w1 ⟨rfl, nv1, hf1, hm1⟩
  have HF1 : Hid (Fs w1 F nv1 lv vs (N ++ [pz]) LS) := hf1
  have HM1 : Hid (Fm w w1 F nv lv nv1 lv) := hm1
  clear hf1 hm1 hG
  go_wp2_with (fail)
  go_loopw [16] (fun vi wr => ∃ (k : Nat) (N1 : List Pn) (G1 : List Lab) (LS1 : List (List Nat)) (nv1 lv1 : Value) (vs1 : List Value), k ≤ m ∧ vi = .int .i64 (k : Int) ∧ Hid (Hng N G LS r (dsL l ps) (amgL l ps) k N1 G1 LS1) ∧ Hid (Fs wr F nv1 lv1 vs1 N1 LS1) ∧ Hid (Fm w wr F nv lv nv1 lv1) ∧ Hid (Nw w vs vs1)) (fun vi _ => m - (intOf vi).toNat)
  case atStart => exact ⟨0, _, _, _, _, _, _, Nat.zero_le _, rfl, HZ, HF1, HM1, fun v hv => .inl hv⟩
  case round =>
    obtain ⟨k, N1, G1, LS1, nv1, lv1, vs1, hk, rfl, HH, HF, HM, HNw⟩ := hrel
    by_cases hlt : k < m
    · have hlt' : k < ps.length := by rw [← Hm.out]; exact hlt
      have hlti : (k : Int) < (m : Int) := by omega
      have HVr := HV.out.moved HM.out
      have HUr := HU.out.moved HM.out
      obtain ⟨gu, ou, rfl, hcu⟩ := SrcI.at HUr.1 (k := k) (by rw [ofN_len]; exact hlt')
      rw [ofN_at] at hcu
      have hi := HPs.out _ (List.getElem_mem hlt')
      have hDk : (dsL l ps)[k]'(by rw [HDl.out]; exact hlt') = ds (ruAt l ps[k]) := dsL_at hlt' _
      obtain ⟨i, hie⟩ : ∃ i, i = ps[k] := ⟨_, rfl⟩
      rw [← hie] at hi hcu hDk
      obtain ⟨g, off, rfl, hrg⟩ := (rngU HVr.1).2 wr (Below.refl _ _) i hi
      have hbd := Hok.out _ (List.getElem_mem hi)
      rw [ruAt_at hi] at hDk
      obtain ⟨p, hp⟩ : ∃ p, p = l[i] := ⟨_, rfl⟩
      rw [← hp] at hrg hbd hDk
      obtain ⟨_, _, hox, hq2⟩ := okR_sr hbd.2 hbd.1
      obtain ⟨dd, hdd⟩ : ∃ dd, dd = ds p := ⟨_, rfl⟩
      have x3 : wr.cell? ⟨g, off + i * 12 + 3, none⟩ = some (.int .u32 (dd.1 : Int)) := by rw [hdd]; exact hrg 3 _ rfl
      have x4 : wr.cell? ⟨g, off + i * 12 + 4, none⟩ = some (.int .i64 (dd.2 : Int)) := by rw [hdd, ← hq2]; exact hrg 4 _ rfl
      rw [← hdd] at hDk hox
      have HDk : Hid (ds p = dd) := hdd.symm
      have hin : (i : Int) < (n : Int) := by have := Hn.out; omega
      have hd1 : dd.1 < 4294967296 := hox.1
      obtain ⟨W1, hW1⟩ : ∃ W1, W1 = wr.alloc (.cells #[.int .u32 (dd.1 : Int), .int .i64 (dd.2 : Int)] 39) := ⟨_, rfl⟩
      have hbW : Below wr.heap.size wr W1 := by rw [hW1]; exact (Below.refl _ _).alloc (Nat.le_refl _) _
      have HK1 : Hid (Kf W1 F nv1 lv1 wr.heap.size (.cells #[.int .u32 (dd.1 : Int), .int .i64 (dd.2 : Int)] 39 (0, 0))) := by rw [hW1]; exact Kf.new HF.out _
      have HFa : Hid (Fs W1 F nv1 lv1 vs1 N1 LS1) := HF.out.on hbW
      have HMa : Hid (Fm w W1 F nv lv nv1 lv1) := HM.out.trans (Fm.of_below hbW)
      have y0 : W1.cell? ⟨wr.heap.size, 0, none⟩ = some (.int .u32 (dd.1 : Int)) := blk_cell HK1.out.1 rfl
      have y1 : W1.cell? ⟨wr.heap.size, 1, none⟩ = some (.int .i64 (dd.2 : Int)) := blk_cell HK1.out.1 rfl
      have HN1 : Hid (N1.length ≤ 16777216 - 64) := by
        have h1 := HH.out.few; have h2 := HH.out.wf.len; have h3 := HNb.out; have h4 := Hgl.out
        show _ ≤ _; omega
      have HL1 : Hid (LS1.length ≤ 8388608 + 64) := by
        have h1 := HH.out.lists; have h2 := HLb.out
        show _ ≤ _; omega
      have hRc := reachC F nv1 lv1 vs1 N1 G1 LS1 r r dd W1 HFa.out HH.out.wf HH.out.root (okx_of hox) (by have := HN1.out; omega)
      clear hrg hbd hp hie hi HVr HUr hq2 hdd hbW HF HM
      subst hW1
      go_wp2_with (go_at_call 49; fail)
      refine hRc.mono ?_
      rintro e w2 ⟨N2, G2, t, rfl, hR2, nv2, hf2, hm2⟩
      have hRp : Rch N1 G1 r (pp ((dsL l ps)[k]'(by rw [HDl.out]; exact hlt'))) N2 G2 t := by rw [hDk]; exact hR2
      obtain ⟨x, hx⟩ := hR2.wf.node hR2.here
      obtain ⟨g2, cap2, hnv2, hcap2, d0, d1, d2, hfz2, hxe2⟩ := hf2.at x hx
      have HF2 : Hid (Fs w2 F nv2 lv1 vs1 N2 LS1) := hf2
      have HM2 : Hid (Fm w w2 F nv lv nv2 lv1) := HMa.out.trans hm2
      have HK2 : Hid (Kf w2 F nv2 lv1 wr.heap.size (.cells #[.int .u32 (dd.1 : Int), .int .i64 (dd.2 : Int)] 39 (0, 0))) := HK1.out.moved hm2
      obtain ⟨F20, F21⟩ := blk2 hf2.blk
      have htl := pn_lt hx
      obtain ⟨m2, hmm2⟩ : ∃ m2, m2 = N2.length := ⟨_, rfl⟩
      rw [← hmm2] at hnv2 htl
      have Hm2 : Hid (m2 = N2.length) := hmm2
      have Hxe : Hid (N2[t]? = some x) := hx
      have hti : (t : Int) < (m2 : Int) := by omega
      have hm2b : (m2 : Int) ≤ 16777216 := by
        have h1 := hR2.few; have h2 := hR2.wf.len; have h3 := HN1.out; have h4 := HH.out.wf.len; have h5 : (pp dd).length ≤ 32 := by unfold pp; rw [pth_len]; exact (okx_of hox).2.1
        omega
      rw [hnv2] at F20
      by_cases hc : x.c = 0
      · have hci : ((x.c : Int) == 0) = true := by rw [hc]; rfl
        have HH2 : Hid (Hng N G LS r (dsL l ps) (amgL l ps) (k + 1) (N2.set t (x.bear (LS1.length + 1))) G2 (LS1 ++ [amgL l ps dd])) := by have := HH.out.more (by rw [HDl.out]; exact hlt') hRp HDok.out hx hc; rw [hDk] at this; exact this
        obtain ⟨mL, hmL⟩ : ∃ mL, mL = LS1.length := ⟨_, rfl⟩
        have HmL : Hid (LS1.length = mL) := hmL.symm
        have hmLb : (mL : Int) ≤ 8388672 := by have := HL1.out; omega
        have hAm : ∀ W, Below w2.heap.size w2 W → Calls Try.prog 72 #[.slice (some ⟨g, off, none⟩) n capv, .slice (some ⟨gu, ou, none⟩) m cu, .agg #[.int .u32 (dd.1 : Int), .int .i64 (dd.2 : Int)]] W fun e w' => ∃ v' : Value, e = .returned v' ∧ RowI w' W.heap.size v' (ofN (amgL l ps dd)) ∧ Below W.heap.size W w' := fun W hb =>
          amongPC l ps dd _ _ W (((HV.out.moved HM2.out).1).keep hb) (((HU.out.moved HM2.out).1).keep hb) Hl.out Hpl.out HPs.out Hok.out hd1
        have hc4 : ∀ W, Below w2.heap.size w2 W → W.cell? ⟨F, 1, none⟩ = some lv1 := fun W hb => cell_on1 hb (blk2 HF2.out.blk).2
        have hcd : ∀ W, Below w2.heap.size w2 W → W.cell? ⟨wr.heap.size, 0, none⟩ = some (.int .u32 (dd.1 : Int)) ∧ W.cell? ⟨wr.heap.size, 1, none⟩ = some (.int .i64 (dd.2 : Int)) := fun W hb => ⟨cell_on1 hb (blk2 HK2.out.1).1, cell_on1 hb (blk2 HK2.out.1).2⟩
        obtain ⟨adl, capl, hlv, _, _⟩ := HF2.out.fr.lst.form
        have hvl : vs1.length = mL := by rw [HF2.out.fr.len, HmL.out]
        rw [hvl] at hlv
        have HBa : Hid (Below w2.heap.size w2 w2.drew) := (Below.refl _ _).drew
        have f0 := hc4 _ HBa.out
        have q0 := hcd _ HBa.out
        clear hRc hf2 hm2 hR2 hRp hx hmm2 hxe2 hDk hox y0 y1 x3 x4 hcu HK1 HFa HMa hmL hvl HH hc
        subst hnv2 hlv
        go_upto_region 8 with (fail)
        refine wp_region_held_drew (S := fun w' => w'.cell? ⟨wr.heap.size, 0, none⟩ = some (.int .u32 (dd.1 : Int)) ∧ w'.cell? ⟨wr.heap.size, 1, none⟩ = some (.int .i64 (dd.2 : Int))) (by kernel_rfl) q0 (fun hS0 => ?_)
        show wpAnyH _ _ _ _ _ 14 _ _ _
        refine wpAnyH_take (i := 0) (v := .pointer (some ⟨F, 0, none⟩)) rfl (by kernel_rfl) (by kernel_rfl) (by kernel_rfl) (fun _ _ _ h => h) (.inl ⟨rfl, fun _ _ => by simp [execOp, go_sem]⟩) hS0 ?_
        simp only [List.getElem_toArray, List.getElem_cons_succ, List.getElem_cons_zero, Act.put, List.setIfInBounds_toArray, List.set_cons_zero, List.set_cons_succ]
        refine wpAnyH_take (i := 1) (v := .pointer (some ⟨F, 0, none⟩)) rfl (by kernel_rfl) (by kernel_rfl) (by kernel_rfl) (fun _ _ _ h => h) (.inl ⟨rfl, fun _ _ => by simp [execOp, go_sem]⟩) hS0 ?_
        simp only [List.getElem_toArray, List.getElem_cons_succ, List.getElem_cons_zero, Act.put, List.setIfInBounds_toArray, List.set_cons_zero, List.set_cons_succ]
        refine wpAnyH_take (i := 2) (v := .pointer (some ⟨F, 0, none⟩)) rfl (by kernel_rfl) (by kernel_rfl) (by kernel_rfl) (fun _ _ _ h => h) (.inl ⟨rfl, fun _ _ => by simp [execOp, go_sem]⟩) hS0 ?_
        simp only [List.getElem_toArray, List.getElem_cons_succ, List.getElem_cons_zero, Act.put, List.setIfInBounds_toArray, List.set_cons_zero, List.set_cons_succ]
        refine wpAnyH_take (i := 3) (v := .pointer (some ⟨F, 1, none⟩)) rfl (by kernel_rfl) (by kernel_rfl) (by kernel_rfl) (fun _ _ _ h => h) (.inl ⟨rfl, fun _ _ => by simp [execOp, go_sem]⟩) hS0 ?_
        simp only [List.getElem_toArray, List.getElem_cons_succ, List.getElem_cons_zero, Act.put, List.setIfInBounds_toArray, List.set_cons_zero, List.set_cons_succ]
        refine wpAnyH_take (i := 5) (v := .slice (some ⟨g, off, none⟩) n capv) rfl (by kernel_rfl) (by kernel_rfl) (by kernel_rfl) (fun _ _ _ h => h) (.inl ⟨rfl, fun _ _ => by simp [execOp, go_sem]⟩) hS0 ?_
        simp only [List.getElem_toArray, List.getElem_cons_succ, List.getElem_cons_zero, Act.put, List.setIfInBounds_toArray, List.set_cons_zero, List.set_cons_succ]
        refine wpAnyH_take (i := 6) (v := .slice (some ⟨gu, ou, none⟩) m cu) rfl (by kernel_rfl) (by kernel_rfl) (by kernel_rfl) (fun _ _ _ h => h) (.inl ⟨rfl, fun _ _ => by simp [execOp, go_sem]⟩) hS0 ?_
        simp only [List.getElem_toArray, List.getElem_cons_succ, List.getElem_cons_zero, Act.put, List.setIfInBounds_toArray, List.set_cons_zero, List.set_cons_succ]
        refine wpAnyH_take (i := 7) (v := .agg #[.int .u32 (dd.1 : Int), .int .i64 (dd.2 : Int)]) rfl (by kernel_rfl) (by kernel_rfl) (by kernel_rfl) (fun _ _ _ h => h) (.inl ⟨rfl, fun w' hw' => by have hcc := hw'.1; have hcd := hw'.2; simp [execOp, go_sem, hcc, hcd]⟩) hS0 ?_
        simp only [List.getElem_toArray, List.getElem_cons_succ, List.getElem_cons_zero, Act.put, List.setIfInBounds_toArray, List.set_cons_zero, List.set_cons_succ]
        refine wpAnyH_all (rs := [4, 8]) (by kernel_rfl) (by simp) ?_
        intro i0 hi0
        simp only [List.mem_cons, List.not_mem_nil, or_false] at hi0
        rcases hi0 with hi0 | hi0
        · subst hi0
          refine wpOp_of_wp rfl rfl (fun K' hK' => ?_)
          go_wp2_with (fail)
          refine ⟨q0, ?_⟩
          try simp only [List.getElem_toArray, List.getElem_cons_succ, List.getElem_cons_zero, Act.put, List.setIfInBounds_toArray, List.set_cons_zero, List.set_cons_succ]
          refine wpAnyH_all (rs := [8]) (by kernel_rfl) (by simp) ?_
          intro i0 hi0
          simp only [List.mem_cons, List.not_mem_nil, or_false] at hi0
          subst hi0
          refine wpOp_of_wp rfl rfl (fun K' hK' => ?_)
          go_wp2_with (go_at_call 72; refine (hAm _ HBa.out).mono ?_; rintro e w3 ⟨y5, rfl, hr3, hb3⟩)
          have HB3 : Hid (Below w2.heap.size w2 w3) := HBa.out.trans (hb3.mono HBa.out.size)
          have HR3 : Hid (RowI w3 w2.heap.size y5 (ofN (amgL l ps dd))) := hr3
          have f3 := hc4 w3 HB3.out
          have q3 := hcd w3 HB3.out
          obtain ⟨ay, cy, rfl, _⟩ := hr3.form
          rw [ofN_len] at HR3 ⊢
          generalize hny : (amgL l ps dd).length = ny at *
          clear hny hb3 hr3
          refine ⟨q3, ?_⟩
          try simp only [List.getElem_toArray, List.getElem_cons_succ, List.getElem_cons_zero, Act.put, List.setIfInBounds_toArray, List.set_cons_zero, List.set_cons_succ]
          refine wpAnyH_all (rs := [9]) (by kernel_rfl) (by simp) ?_
          intro i0 hi0
          simp only [List.mem_cons, List.not_mem_nil, or_false] at hi0
          subst hi0
          refine wpOp_of_wp rfl rfl (fun K' hK' => ?_)
          have hbW : Below w3.heap.size w3 (w3.alloc (.cells #[.slice ay ny cy] 23)) := (Below.refl _ _).alloc (Nat.le_refl _) _
          have HB5 : Hid (Below w2.heap.size w2 (w3.alloc (.cells #[.slice ay ny cy] 23))) := HB3.out.trans (hbW.mono HB3.out.size)
          have HF5 : Hid (Fs (w3.alloc (.cells #[.slice ay ny cy] 23)) F (.slice (some ⟨g2, 0, none⟩) m2 cap2) (.slice adl mL capl) vs1 N2 LS1) := HF2.out.on HB5.out
          have HY5 : Hid (Ki (w3.alloc (.cells #[.slice ay ny cy] 23)) F (.slice (some ⟨g2, 0, none⟩) m2 cap2) (.slice adl mL capl) (.slice ay ny cy) (ofN (amgL l ps dd))) := (Ki.row HF2.out HR3.out).on hbW
          have Hone5 : Hid ((w3.alloc (.cells #[.slice ay ny cy] 23)).cell? ⟨w3.heap.size, 0, none⟩ = some (.slice ay ny cy)) := blk_cell (blk_new w3 _) rfl
          have HK5 : Hid (Kf (w3.alloc (.cells #[.slice ay ny cy] 23)) F (.slice (some ⟨g2, 0, none⟩) m2 cap2) (.slice adl mL capl) wr.heap.size (.cells #[.int .u32 (dd.1 : Int), .int .i64 (dd.2 : Int)] 39 (0, 0))) := HK2.out.on HB5.out
          have q5 := hcd _ HB5.out
          have f5 := hc4 _ HB5.out
          clear hbW
          go_wp2_with (fail)
          refine ⟨q5, ?_⟩
          try simp only [List.getElem_toArray, List.getElem_cons_succ, List.getElem_cons_zero, Act.put, List.setIfInBounds_toArray, List.set_cons_zero, List.set_cons_succ]
          refine wpAnyH_all (rs := [10]) (by kernel_rfl) (by simp) ?_
          intro i0 hi0
          simp only [List.mem_cons, List.not_mem_nil, or_false] at hi0
          subst hi0
          refine wpOp_of_wp rfl rfl (fun K' hK' => ?_)
          refine wp_appendL (.tmp 42) (.tmp 47) rfl 0 (.slice adl mL capl) vs1 rfl HF5.out.fr.lst w3.heap.size (.slice ay ny cy) rfl rfl Hone5.out (Nat.zero_le _) (by rw [HF5.out.fr.len, HmL.out]; omega) ?_
          intro lv6 w6 hr6 hg6 hat6
          have hL6 := HF5.out.lists hr6 hg6 hat6 HY5.out
          have hd6 : w6.heap[wr.heap.size]? = some (.cells #[.int .u32 (dd.1 : Int), .int .i64 (dd.2 : Int)] 39 (0, 0)) := by rw [hg6.block _ (blk_lt HK5.out.1) (fun e => HK5.out.2 (.inr (.inr e.symm)))]; exact HK5.out.1
          obtain ⟨q0, q1⟩ := blk2 hd6
          refine hK' _ _ ⟨⟨q0, q1⟩, ?_⟩
          simp only [List.getElem_toArray, List.getElem_cons_succ, List.getElem_cons_zero, Act.put, List.setIfInBounds_toArray, List.set_cons_zero, List.set_cons_succ]
          refine wpAnyH_take (i := 11) (v := .pointer (some ⟨F, 0, none⟩)) rfl (by kernel_rfl) (by kernel_rfl) (by kernel_rfl) (fun _ _ _ h => h) (.inl ⟨rfl, fun _ _ => by simp [execOp, go_sem]⟩) ⟨q0, q1⟩ ?_
          simp only [List.getElem_toArray, List.getElem_cons_succ, List.getElem_cons_zero, Act.put, List.setIfInBounds_toArray, List.set_cons_zero, List.set_cons_succ]
          refine wpAnyH_take (i := 12) (v := .pointer (some ⟨F, 1, none⟩)) rfl (by kernel_rfl) (by kernel_rfl) (by kernel_rfl) (fun _ _ _ h => h) (.inl ⟨rfl, fun _ _ => by simp [execOp, go_sem]⟩) ⟨q0, q1⟩ ?_
          simp only [List.getElem_toArray, List.getElem_cons_succ, List.getElem_cons_zero, Act.put, List.setIfInBounds_toArray, List.set_cons_zero, List.set_cons_succ]
          refine wpAnyH_all (rs := [13]) (by kernel_rfl) (by simp) ?_
          intro i0 hi0
          simp only [List.mem_cons, List.not_mem_nil, or_false] at hi0
          subst hi0
          refine wpOp_of_wp rfl rfl (fun K' hK' => ?_)
          have h6 : w6.heap[F]? = some (.cells #[(.slice (some ⟨g2, 0, none⟩) m2 cap2), (.slice adl mL capl)] 72 (0, 0)) := (hg6.block F HF5.out.lt (fun e => HF5.out.ap2 e.symm)).trans HF5.out.blk
          obtain ⟨ad6, cap6, rfl, _, _⟩ := hr6.form
          have hr6l : (vs1 ++ [Value.slice ay ny cy]).length = mL + 1 := by rw [List.length_append, HF5.out.fr.len, HmL.out]; rfl
          rw [hr6l] at hL6 ⊢
          have e6 := (blk2 h6).2
          have z6 := blk_free h6 1
          have hne6 : ¬ wr.heap.size = F := fun e => HK5.out.2 (.inl e)
          have q6 : (w6.setCell ⟨F, 1, none⟩ (.slice ad6 (mL + 1) cap6)).cell? ⟨wr.heap.size, 0, none⟩ = some (.int .u32 (dd.1 : Int)) := (World.cell?_setCell_far _ _ _ _ (fun e => hne6 e.symm)).trans q0
          have q7 : (w6.setCell ⟨F, 1, none⟩ (.slice ad6 (mL + 1) cap6)).cell? ⟨wr.heap.size, 1, none⟩ = some (.int .i64 (dd.2 : Int)) := (World.cell?_setCell_far _ _ _ _ (fun e => hne6 e.symm)).trans q1
          have HF6 : Hid (Fs (w6.setCell ⟨F, 1, none⟩ (.slice ad6 (mL + 1) cap6)) F (.slice (some ⟨g2, 0, none⟩) m2 cap2) (.slice ad6 (mL + 1) cap6) (vs1 ++ [.slice ay ny cy]) N2 (LS1 ++ [amgL l ps dd])) := hL6.1
          have HM6 : Hid (Fm w (w6.setCell ⟨F, 1, none⟩ (.slice ad6 (mL + 1) cap6)) F nv lv (.slice (some ⟨g2, 0, none⟩) m2 cap2) (.slice ad6 (mL + 1) cap6)) := (HM2.out.trans (Fm.of_below HB5.out)).trans hL6.2
          have HNw2 : Hid (Nw w vs (vs1 ++ [.slice ay ny cy])) := HNw.out.more (fun k e => Nat.le_trans HM2.out.size (HR3.out.lt k e).1)
          go_wp2_with (fail)
          refine ⟨⟨q6, q7⟩, ?_⟩
          refine wpAnyH_done (by kernel_rfl) ?_ _
          try simp only [List.getElem_toArray, List.getElem_cons_succ, List.getElem_cons_zero, Act.put, List.setIfInBounds_toArray, List.set_cons_zero, List.set_cons_succ]
          clear q0 q1 q3 f3 q5 f5 e6 z6 h6 hL6 hr6 hg6 hat6 hr6l hd6 HB3 HB5 HF5 HY5 Hone5 HK5 q6 q7 hAm hc4 hcd HF2 HM2 HK2
          generalize w6.setCell ⟨F, 1, none⟩ (.slice ad6 (mL + 1) cap6) = W7 at *
          obtain ⟨F70, F71⟩ := blk2 HF6.out.blk
          obtain ⟨c72, hfz7, hxe7⟩ := HF6.out.at2 x Hxe.out
          have hz7 := hfz7 (t * 3 + 2)
          have hset := HF6.out.cell t 2 (pn_lt Hxe.out) (by decide) (x.bear (LS1.length + 1)) (.int .i64 ((mL : Int) + 1)) (by rw [← hxe7, enc_bear, HmL.out]; rfl)
          have HF8 : Hid _ := hset.1
          have HM8 : Hid _ := HM6.out.trans hset.2
          clear hset hfz7 hxe7
          go_upto_region 9 with (fail)
          go_region
          have HB9 : Hid (Below (W7.setCell ⟨g2, t * 3 + 2, none⟩ (.int .i64 ((mL : Int) + 1))).heap.size (W7.setCell ⟨g2, t * 3 + 2, none⟩ (.int .i64 ((mL : Int) + 1))) (W7.setCell ⟨g2, t * 3 + 2, none⟩ (.int .i64 ((mL : Int) + 1))).drew) := (Below.refl _ _).drew
          have HF9 : Hid _ := HF8.out.on HB9.out
          have HM9 : Hid _ := HM8.out.trans (Fm.of_below HB9.out)
          clear HF8 HM8 HB9 HF6 HM6
          go_wp2_with (fail)
          go_roundw
          case rel => exact ⟨k + 1, _, _, _, _, _, _, by omega, by go_num, HH2, HF9, HM9, HNw2⟩
          case measure => simp [intOf]; omega
        · subst hi0
          refine wpOp_of_wp rfl rfl (fun K' hK' => ?_)
          go_wp2_with (go_at_call 72; refine (hAm _ HBa.out).mono ?_; rintro e w3 ⟨y5, rfl, hr3, hb3⟩)
          have HB3 : Hid (Below w2.heap.size w2 w3) := HBa.out.trans (hb3.mono HBa.out.size)
          have HR3 : Hid (RowI w3 w2.heap.size y5 (ofN (amgL l ps dd))) := hr3
          have f3 := hc4 w3 HB3.out
          have q3 := hcd w3 HB3.out
          obtain ⟨ay, cy, rfl, _⟩ := hr3.form
          rw [ofN_len] at HR3 ⊢
          generalize hny : (amgL l ps dd).length = ny at *
          clear hny hb3 hr3
          refine ⟨q3, ?_⟩
          try simp only [List.getElem_toArray, List.getElem_cons_succ, List.getElem_cons_zero, Act.put, List.setIfInBounds_toArray, List.set_cons_zero, List.set_cons_succ]
          refine wpAnyH_all (rs := [4, 9]) (by kernel_rfl) (by simp) ?_
          intro i0 hi0
          simp only [List.mem_cons, List.not_mem_nil, or_false] at hi0
          rcases hi0 with hi0 | hi0
          · subst hi0
            refine wpOp_of_wp rfl rfl (fun K' hK' => ?_)
            go_wp2_with (fail)
            refine ⟨q3, ?_⟩
            try simp only [List.getElem_toArray, List.getElem_cons_succ, List.getElem_cons_zero, Act.put, List.setIfInBounds_toArray, List.set_cons_zero, List.set_cons_succ]
            refine wpAnyH_all (rs := [9]) (by kernel_rfl) (by simp) ?_
            intro i0 hi0
            simp only [List.mem_cons, List.not_mem_nil, or_false] at hi0
            subst hi0
            refine wpOp_of_wp rfl rfl (fun K' hK' => ?_)
            have hbW : Below w3.heap.size w3 (w3.alloc (.cells #[.slice ay ny cy] 23)) := (Below.refl _ _).alloc (Nat.le_refl _) _
            have HB5 : Hid (Below w2.heap.size w2 (w3.alloc (.cells #[.slice ay ny cy] 23))) := HB3.out.trans (hbW.mono HB3.out.size)
            have HF5 : Hid (Fs (w3.alloc (.cells #[.slice ay ny cy] 23)) F (.slice (some ⟨g2, 0, none⟩) m2 cap2) (.slice adl mL capl) vs1 N2 LS1) := HF2.out.on HB5.out
            have HY5 : Hid (Ki (w3.alloc (.cells #[.slice ay ny cy] 23)) F (.slice (some ⟨g2, 0, none⟩) m2 cap2) (.slice adl mL capl) (.slice ay ny cy) (ofN (amgL l ps dd))) := (Ki.row HF2.out HR3.out).on hbW
            have Hone5 : Hid ((w3.alloc (.cells #[.slice ay ny cy] 23)).cell? ⟨w3.heap.size, 0, none⟩ = some (.slice ay ny cy)) := blk_cell (blk_new w3 _) rfl
            have HK5 : Hid (Kf (w3.alloc (.cells #[.slice ay ny cy] 23)) F (.slice (some ⟨g2, 0, none⟩) m2 cap2) (.slice adl mL capl) wr.heap.size (.cells #[.int .u32 (dd.1 : Int), .int .i64 (dd.2 : Int)] 39 (0, 0))) := HK2.out.on HB5.out
            have q5 := hcd _ HB5.out
            have f5 := hc4 _ HB5.out
            clear hbW
            go_wp2_with (fail)
            refine ⟨q5, ?_⟩
            try simp only [List.getElem_toArray, List.getElem_cons_succ, List.getElem_cons_zero, Act.put, List.setIfInBounds_toArray, List.set_cons_zero, List.set_cons_succ]
            refine wpAnyH_all (rs := [10]) (by kernel_rfl) (by simp) ?_
            intro i0 hi0
            simp only [List.mem_cons, List.not_mem_nil, or_false] at hi0
            subst hi0
            refine wpOp_of_wp rfl rfl (fun K' hK' => ?_)
            refine wp_appendL (.tmp 42) (.tmp 47) rfl 0 (.slice adl mL capl) vs1 rfl HF5.out.fr.lst w3.heap.size (.slice ay ny cy) rfl rfl Hone5.out (Nat.zero_le _) (by rw [HF5.out.fr.len, HmL.out]; omega) ?_
            intro lv6 w6 hr6 hg6 hat6
            have hL6 := HF5.out.lists hr6 hg6 hat6 HY5.out
            have hd6 : w6.heap[wr.heap.size]? = some (.cells #[.int .u32 (dd.1 : Int), .int .i64 (dd.2 : Int)] 39 (0, 0)) := by rw [hg6.block _ (blk_lt HK5.out.1) (fun e => HK5.out.2 (.inr (.inr e.symm)))]; exact HK5.out.1
            obtain ⟨q0, q1⟩ := blk2 hd6
            refine hK' _ _ ⟨⟨q0, q1⟩, ?_⟩
            simp only [List.getElem_toArray, List.getElem_cons_succ, List.getElem_cons_zero, Act.put, List.setIfInBounds_toArray, List.set_cons_zero, List.set_cons_succ]
            refine wpAnyH_take (i := 11) (v := .pointer (some ⟨F, 0, none⟩)) rfl (by kernel_rfl) (by kernel_rfl) (by kernel_rfl) (fun _ _ _ h => h) (.inl ⟨rfl, fun _ _ => by simp [execOp, go_sem]⟩) ⟨q0, q1⟩ ?_
            simp only [List.getElem_toArray, List.getElem_cons_succ, List.getElem_cons_zero, Act.put, List.setIfInBounds_toArray, List.set_cons_zero, List.set_cons_succ]
            refine wpAnyH_take (i := 12) (v := .pointer (some ⟨F, 1, none⟩)) rfl (by kernel_rfl) (by kernel_rfl) (by kernel_rfl) (fun _ _ _ h => h) (.inl ⟨rfl, fun _ _ => by simp [execOp, go_sem]⟩) ⟨q0, q1⟩ ?_
            simp only [List.getElem_toArray, List.getElem_cons_succ, List.getElem_cons_zero, Act.put, List.setIfInBounds_toArray, List.set_cons_zero, List.set_cons_succ]
            refine wpAnyH_all (rs := [13]) (by kernel_rfl) (by simp) ?_
            intro i0 hi0
            simp only [List.mem_cons, List.not_mem_nil, or_false] at hi0
            subst hi0
            refine wpOp_of_wp rfl rfl (fun K' hK' => ?_)
            have h6 : w6.heap[F]? = some (.cells #[(.slice (some ⟨g2, 0, none⟩) m2 cap2), (.slice adl mL capl)] 72 (0, 0)) := (hg6.block F HF5.out.lt (fun e => HF5.out.ap2 e.symm)).trans HF5.out.blk
            obtain ⟨ad6, cap6, rfl, _, _⟩ := hr6.form
            have hr6l : (vs1 ++ [Value.slice ay ny cy]).length = mL + 1 := by rw [List.length_append, HF5.out.fr.len, HmL.out]; rfl
            rw [hr6l] at hL6 ⊢
            have e6 := (blk2 h6).2
            have z6 := blk_free h6 1
            have hne6 : ¬ wr.heap.size = F := fun e => HK5.out.2 (.inl e)
            have q6 : (w6.setCell ⟨F, 1, none⟩ (.slice ad6 (mL + 1) cap6)).cell? ⟨wr.heap.size, 0, none⟩ = some (.int .u32 (dd.1 : Int)) := (World.cell?_setCell_far _ _ _ _ (fun e => hne6 e.symm)).trans q0
            have q7 : (w6.setCell ⟨F, 1, none⟩ (.slice ad6 (mL + 1) cap6)).cell? ⟨wr.heap.size, 1, none⟩ = some (.int .i64 (dd.2 : Int)) := (World.cell?_setCell_far _ _ _ _ (fun e => hne6 e.symm)).trans q1
            have HF6 : Hid (Fs (w6.setCell ⟨F, 1, none⟩ (.slice ad6 (mL + 1) cap6)) F (.slice (some ⟨g2, 0, none⟩) m2 cap2) (.slice ad6 (mL + 1) cap6) (vs1 ++ [.slice ay ny cy]) N2 (LS1 ++ [amgL l ps dd])) := hL6.1
            have HM6 : Hid (Fm w (w6.setCell ⟨F, 1, none⟩ (.slice ad6 (mL + 1) cap6)) F nv lv (.slice (some ⟨g2, 0, none⟩) m2 cap2) (.slice ad6 (mL + 1) cap6)) := (HM2.out.trans (Fm.of_below HB5.out)).trans hL6.2
            have HNw2 : Hid (Nw w vs (vs1 ++ [.slice ay ny cy])) := HNw.out.more (fun k e => Nat.le_trans HM2.out.size (HR3.out.lt k e).1)
            go_wp2_with (fail)
            refine ⟨⟨q6, q7⟩, ?_⟩
            refine wpAnyH_done (by kernel_rfl) ?_ _
            try simp only [List.getElem_toArray, List.getElem_cons_succ, List.getElem_cons_zero, Act.put, List.setIfInBounds_toArray, List.set_cons_zero, List.set_cons_succ]
            clear q0 q1 q3 f3 q5 f5 e6 z6 h6 hL6 hr6 hg6 hat6 hr6l hd6 HB3 HB5 HF5 HY5 Hone5 HK5 q6 q7 hAm hc4 hcd HF2 HM2 HK2
            generalize w6.setCell ⟨F, 1, none⟩ (.slice ad6 (mL + 1) cap6) = W7 at *
            obtain ⟨F70, F71⟩ := blk2 HF6.out.blk
            obtain ⟨c72, hfz7, hxe7⟩ := HF6.out.at2 x Hxe.out
            have hz7 := hfz7 (t * 3 + 2)
            have hset := HF6.out.cell t 2 (pn_lt Hxe.out) (by decide) (x.bear (LS1.length + 1)) (.int .i64 ((mL : Int) + 1)) (by rw [← hxe7, enc_bear, HmL.out]; rfl)
            have HF8 : Hid _ := hset.1
            have HM8 : Hid _ := HM6.out.trans hset.2
            clear hset hfz7 hxe7
            go_upto_region 9 with (fail)
            go_region
            have HB9 : Hid (Below (W7.setCell ⟨g2, t * 3 + 2, none⟩ (.int .i64 ((mL : Int) + 1))).heap.size (W7.setCell ⟨g2, t * 3 + 2, none⟩ (.int .i64 ((mL : Int) + 1))) (W7.setCell ⟨g2, t * 3 + 2, none⟩ (.int .i64 ((mL : Int) + 1))).drew) := (Below.refl _ _).drew
            have HF9 : Hid _ := HF8.out.on HB9.out
            have HM9 : Hid _ := HM8.out.trans (Fm.of_below HB9.out)
            clear HF8 HM8 HB9 HF6 HM6
            go_wp2_with (fail)
            go_roundw
            case rel => exact ⟨k + 1, _, _, _, _, _, _, by omega, by go_num, HH2, HF9, HM9, HNw2⟩
            case measure => simp [intOf]; omega
          · subst hi0
            refine wpOp_of_wp rfl rfl (fun K' hK' => ?_)
            have hbW : Below w3.heap.size w3 (w3.alloc (.cells #[.slice ay ny cy] 23)) := (Below.refl _ _).alloc (Nat.le_refl _) _
            have HB5 : Hid (Below w2.heap.size w2 (w3.alloc (.cells #[.slice ay ny cy] 23))) := HB3.out.trans (hbW.mono HB3.out.size)
            have HF5 : Hid (Fs (w3.alloc (.cells #[.slice ay ny cy] 23)) F (.slice (some ⟨g2, 0, none⟩) m2 cap2) (.slice adl mL capl) vs1 N2 LS1) := HF2.out.on HB5.out
            have HY5 : Hid (Ki (w3.alloc (.cells #[.slice ay ny cy] 23)) F (.slice (some ⟨g2, 0, none⟩) m2 cap2) (.slice adl mL capl) (.slice ay ny cy) (ofN (amgL l ps dd))) := (Ki.row HF2.out HR3.out).on hbW
            have Hone5 : Hid ((w3.alloc (.cells #[.slice ay ny cy] 23)).cell? ⟨w3.heap.size, 0, none⟩ = some (.slice ay ny cy)) := blk_cell (blk_new w3 _) rfl
            have HK5 : Hid (Kf (w3.alloc (.cells #[.slice ay ny cy] 23)) F (.slice (some ⟨g2, 0, none⟩) m2 cap2) (.slice adl mL capl) wr.heap.size (.cells #[.int .u32 (dd.1 : Int), .int .i64 (dd.2 : Int)] 39 (0, 0))) := HK2.out.on HB5.out
            have q5 := hcd _ HB5.out
            have f5 := hc4 _ HB5.out
            clear hbW
            go_wp2_with (fail)
            refine ⟨q5, ?_⟩
            try simp only [List.getElem_toArray, List.getElem_cons_succ, List.getElem_cons_zero, Act.put, List.setIfInBounds_toArray, List.set_cons_zero, List.set_cons_succ]
            refine wpAnyH_all (rs := [4]) (by kernel_rfl) (by simp) ?_
            intro i0 hi0
            simp only [List.mem_cons, List.not_mem_nil, or_false] at hi0
            subst hi0
            refine wpOp_of_wp rfl rfl (fun K' hK' => ?_)
            go_wp2_with (fail)
            refine ⟨q5, ?_⟩
            try simp only [List.getElem_toArray, List.getElem_cons_succ, List.getElem_cons_zero, Act.put, List.setIfInBounds_toArray, List.set_cons_zero, List.set_cons_succ]
            refine wpAnyH_all (rs := [10]) (by kernel_rfl) (by simp) ?_
            intro i0 hi0
            simp only [List.mem_cons, List.not_mem_nil, or_false] at hi0
            subst hi0
            refine wpOp_of_wp rfl rfl (fun K' hK' => ?_)
            refine wp_appendL (.tmp 42) (.tmp 47) rfl 0 (.slice adl mL capl) vs1 rfl HF5.out.fr.lst w3.heap.size (.slice ay ny cy) rfl rfl Hone5.out (Nat.zero_le _) (by rw [HF5.out.fr.len, HmL.out]; omega) ?_
            intro lv6 w6 hr6 hg6 hat6
            have hL6 := HF5.out.lists hr6 hg6 hat6 HY5.out
            have hd6 : w6.heap[wr.heap.size]? = some (.cells #[.int .u32 (dd.1 : Int), .int .i64 (dd.2 : Int)] 39 (0, 0)) := by rw [hg6.block _ (blk_lt HK5.out.1) (fun e => HK5.out.2 (.inr (.inr e.symm)))]; exact HK5.out.1
            obtain ⟨q0, q1⟩ := blk2 hd6
            refine hK' _ _ ⟨⟨q0, q1⟩, ?_⟩
            simp only [List.getElem_toArray, List.getElem_cons_succ, List.getElem_cons_zero, Act.put, List.setIfInBounds_toArray, List.set_cons_zero, List.set_cons_succ]
            refine wpAnyH_take (i := 11) (v := .pointer (some ⟨F, 0, none⟩)) rfl (by kernel_rfl) (by kernel_rfl) (by kernel_rfl) (fun _ _ _ h => h) (.inl ⟨rfl, fun _ _ => by simp [execOp, go_sem]⟩) ⟨q0, q1⟩ ?_
            simp only [List.getElem_toArray, List.getElem_cons_succ, List.getElem_cons_zero, Act.put, List.setIfInBounds_toArray, List.set_cons_zero, List.set_cons_succ]
            refine wpAnyH_take (i := 12) (v := .pointer (some ⟨F, 1, none⟩)) rfl (by kernel_rfl) (by kernel_rfl) (by kernel_rfl) (fun _ _ _ h => h) (.inl ⟨rfl, fun _ _ => by simp [execOp, go_sem]⟩) ⟨q0, q1⟩ ?_
            simp only [List.getElem_toArray, List.getElem_cons_succ, List.getElem_cons_zero, Act.put, List.setIfInBounds_toArray, List.set_cons_zero, List.set_cons_succ]
            refine wpAnyH_all (rs := [13]) (by kernel_rfl) (by simp) ?_
            intro i0 hi0
            simp only [List.mem_cons, List.not_mem_nil, or_false] at hi0
            subst hi0
            refine wpOp_of_wp rfl rfl (fun K' hK' => ?_)
            have h6 : w6.heap[F]? = some (.cells #[(.slice (some ⟨g2, 0, none⟩) m2 cap2), (.slice adl mL capl)] 72 (0, 0)) := (hg6.block F HF5.out.lt (fun e => HF5.out.ap2 e.symm)).trans HF5.out.blk
            obtain ⟨ad6, cap6, rfl, _, _⟩ := hr6.form
            have hr6l : (vs1 ++ [Value.slice ay ny cy]).length = mL + 1 := by rw [List.length_append, HF5.out.fr.len, HmL.out]; rfl
            rw [hr6l] at hL6 ⊢
            have e6 := (blk2 h6).2
            have z6 := blk_free h6 1
            have hne6 : ¬ wr.heap.size = F := fun e => HK5.out.2 (.inl e)
            have q6 : (w6.setCell ⟨F, 1, none⟩ (.slice ad6 (mL + 1) cap6)).cell? ⟨wr.heap.size, 0, none⟩ = some (.int .u32 (dd.1 : Int)) := (World.cell?_setCell_far _ _ _ _ (fun e => hne6 e.symm)).trans q0
            have q7 : (w6.setCell ⟨F, 1, none⟩ (.slice ad6 (mL + 1) cap6)).cell? ⟨wr.heap.size, 1, none⟩ = some (.int .i64 (dd.2 : Int)) := (World.cell?_setCell_far _ _ _ _ (fun e => hne6 e.symm)).trans q1
            have HF6 : Hid (Fs (w6.setCell ⟨F, 1, none⟩ (.slice ad6 (mL + 1) cap6)) F (.slice (some ⟨g2, 0, none⟩) m2 cap2) (.slice ad6 (mL + 1) cap6) (vs1 ++ [.slice ay ny cy]) N2 (LS1 ++ [amgL l ps dd])) := hL6.1
            have HM6 : Hid (Fm w (w6.setCell ⟨F, 1, none⟩ (.slice ad6 (mL + 1) cap6)) F nv lv (.slice (some ⟨g2, 0, none⟩) m2 cap2) (.slice ad6 (mL + 1) cap6)) := (HM2.out.trans (Fm.of_below HB5.out)).trans hL6.2
            have HNw2 : Hid (Nw w vs (vs1 ++ [.slice ay ny cy])) := HNw.out.more (fun k e => Nat.le_trans HM2.out.size (HR3.out.lt k e).1)
            go_wp2_with (fail)
            refine ⟨⟨q6, q7⟩, ?_⟩
            refine wpAnyH_done (by kernel_rfl) ?_ _
            try simp only [List.getElem_toArray, List.getElem_cons_succ, List.getElem_cons_zero, Act.put, List.setIfInBounds_toArray, List.set_cons_zero, List.set_cons_succ]
            clear q0 q1 q3 f3 q5 f5 e6 z6 h6 hL6 hr6 hg6 hat6 hr6l hd6 HB3 HB5 HF5 HY5 Hone5 HK5 q6 q7 hAm hc4 hcd HF2 HM2 HK2
            generalize w6.setCell ⟨F, 1, none⟩ (.slice ad6 (mL + 1) cap6) = W7 at *
            obtain ⟨F70, F71⟩ := blk2 HF6.out.blk
            obtain ⟨c72, hfz7, hxe7⟩ := HF6.out.at2 x Hxe.out
            have hz7 := hfz7 (t * 3 + 2)
            have hset := HF6.out.cell t 2 (pn_lt Hxe.out) (by decide) (x.bear (LS1.length + 1)) (.int .i64 ((mL : Int) + 1)) (by rw [← hxe7, enc_bear, HmL.out]; rfl)
            have HF8 : Hid _ := hset.1
            have HM8 : Hid _ := HM6.out.trans hset.2
            clear hset hfz7 hxe7
            go_upto_region 9 with (fail)
            go_region
            have HB9 : Hid (Below (W7.setCell ⟨g2, t * 3 + 2, none⟩ (.int .i64 ((mL : Int) + 1))).heap.size (W7.setCell ⟨g2, t * 3 + 2, none⟩ (.int .i64 ((mL : Int) + 1))) (W7.setCell ⟨g2, t * 3 + 2, none⟩ (.int .i64 ((mL : Int) + 1))).drew) := (Below.refl _ _).drew
            have HF9 : Hid _ := HF8.out.on HB9.out
            have HM9 : Hid _ := HM8.out.trans (Fm.of_below HB9.out)
            clear HF8 HM8 HB9 HF6 HM6
            go_wp2_with (fail)
            go_roundw
            case rel => exact ⟨k + 1, _, _, _, _, _, _, by omega, by go_num, HH2, HF9, HM9, HNw2⟩
            case measure => simp [intOf]; omega
      · have hci : ((x.c : Int) == 0) = false := by rw [beq_eq_false_iff_ne]; omega
        have HH2 : Hid (Hng N G LS r (dsL l ps) (amgL l ps) (k + 1) N2 G2 LS1) := HH.out.again (by rw [HDl.out]; exact hlt') hRp HDok.out hx hc
        clear hRc hf2 hm2 hR2 hRp hx hmm2 hxe2 hDk hox y0 y1 x3 x4 hcu HK1 HFa HMa hc HH
        go_wp2_with (fail)
        go_roundw
        case rel => exact ⟨k + 1, _, _, _, _, _, _, by omega, by go_num, HH2, HF2, HM2, HNw⟩
        case measure => simp [intOf]; omega
    · obtain rfl : k = m := by omega
      have hni : ¬ (k : Int) < (k : Int) := by omega
      go_wp2
      go_ret
      exact ⟨rfl, N1, G1, LS1, by rw [HDl.out, ← Hm.out]; exact HH.out, nv1, lv1, vs1, HF.out, HM.out, HNw.out⟩
end Go.Proofs.Ytcpcljdnkekogaa
/-
  prune's plant: the forest of a list of rules.
-/
namespace Go.Proofs.Ytcpcljdnkekogaa
open Go.RowKit
set_option linter.unusedVariables false
set_option linter.unusedSimpArgs false

theorem holdL_len (l : List Ru) (s : Nat × Nat) : (holdL l s).length ≤ l.length := Nat.le_trans (List.length_filter_le _ _) (by simp)
theorem tgL_len (l : List Ru) (s : Nat × Nat) : (tgL l s).length ≤ l.length := by unfold tgL; rw [dsL_len]; exact holdL_len l s
theorem Pla.small {l : List Ru} {j : Nat} {N : List Pn} {G : List Lab} {LS : List (List Nat)} (h : Pla (l.map sr) (tgL l) (lsL l) j N G LS) (hl : l.length ≤ 64) (hj : j ≤ l.length) : N.length ≤ 200000 ∧ LS.length ≤ 200000 := by
  have hu : (uq ((l.map sr).take j)).length ≤ 64 := Nat.le_trans (uq_len _) (by rw [List.length_take, List.length_map]; omega)
  have h1 := h.few
  have h2 := h.wf.len
  have h3 := h.lists
  have b1 := sumF_bound (f := fun s => 1 + 32 * (tgL l s).length) (l := uq ((l.map sr).take j)) (k := 2049) (fun s _ => by have := tgL_len l s; omega)
  have b2 := sumF_bound (f := fun s => (tgL l s).length) (l := uq ((l.map sr).take j)) (k := 64) (fun s _ => by have := tgL_len l s; omega)
  have m1 : (uq ((l.map sr).take j)).length * 2049 ≤ 64 * 2049 := Nat.mul_le_mul_right _ hu
  have m2 : (uq ((l.map sr).take j)).length * 64 ≤ 64 * 64 := Nat.mul_le_mul_right _ hu
  omega
theorem map_at {l : List Ru} {k : Nat} (h : k < l.length) (h' : k < (l.map sr).length) : (l.map sr)[k] = sr l[k] := by simp
theorem Okx.of_sr {l : List Ru} (o : OkA l) : ∀ s ∈ l.map sr, Okx s := fun s hs => okx_of (o.src hs)
theorem ret_zero : ((([] : List Pn).length : Nat) : Int) = 0 := rfl
theorem Fr.only {w w1 : World} {B : Nat} {nv lv : Value} {vs : List Value} {N : List Pn} {LS : List (List Nat)} (h : Fr w nv lv vs N LS) (ho : Only B w w1) (h1 : nv.ownBlock ≠ some B) (h2 : lv.ownBlock ≠ some B) (h3 : ∀ v ∈ vs, v.ownBlock ≠ some B) : Fr w1 nv lv vs N LS :=
  ⟨h.nod.stay (fun k e => ho.block k (fun e' => h1 (by rw [e, e']))), h.lst.stay (fun k e => ho.block k (fun e' => h2 (by rw [e, e']))), h.len, fun k v l a b => (h.src k v l a b).stay (fun j e hj => ho.block j (fun e' => h3 v (List.mem_of_getElem? a) (by rw [e, e']))), fun v hv k e => by rw [ho.size]; exact h.lt v hv k e, h.ap, h.far⟩
/-- All that a forest has lies in blocks from a number on. -/
def Frn (b : Nat) (nv lv : Value) (vs : List Value) : Prop := (∀ k, nv.ownBlock = some k → b ≤ k) ∧ (∀ k, lv.ownBlock = some k → b ≤ k) ∧ ∀ v ∈ vs, ∀ k, v.ownBlock = some k → b ≤ k
set_option maxHeartbeats 8000000 in
set_option maxRecDepth 20000 in
theorem plantC (l : List Ru) (v : Value) (w : World) (hs : SrcU w v l) (hl : l.length ≤ 64) (ok : OkA l) :
    Calls Try.prog 36 #[v] w fun e w' => ∃ (nv lv : Value) (vs : List Value) (N : List Pn) (LS : List (List Nat)), e = .returned (.agg #[nv, lv]) ∧ Fr w' nv lv vs N LS ∧ Plt l N LS ∧ Frn w.heap.size nv lv vs ∧ Below w.heap.size w w' := by
  by_cases hne : l = []
  · subst hne
    obtain ⟨ad, cap, rfl, _⟩ := hs
    have HB2 : Hid (Below w.heap.size w ((w.alloc (.cells #[.slice none 0 0, .slice none 0 0] 72)).alloc (.cells #[.slice none 0 0, .slice none 0 0] 72))) := ((Below.refl _ _).alloc (Nat.le_refl _) _).alloc (by simp) _
    have h0 : ((w.alloc (.cells #[.slice none 0 0, .slice none 0 0] 72)).alloc (.cells #[.slice none 0 0, .slice none 0 0] 72)).heap[w.heap.size]? = some (.cells #[.slice none 0 0, .slice none 0 0] 72 (0, 0)) := blk_alloc (blk_new w _) _
    go_enter Try.func36, Try.ntmps36
    go_wp2_with (refine wpList_store_blk rfl 72 (.tmp 2) (.tmp 12) rfl w.heap.size 0 #[.slice none 0 0, .slice none 0 0] #[.slice none 0 0, .slice none 0 0] rfl rfl 72 _ h0 (Nat.le_of_ble_eq_true rfl) rfl (by kernel_rfl) rfl ?_; intro w8 hw8 how8)
    refine bodyPost_ret (results_blk Try.results36 rfl hw8 Try.underlying72 rfl (by kernel_rfl)) rfl ?_
    exact ⟨_, _, [], [], [], rfl, Fr.nil w8, .inl ⟨rfl, rfl, rfl⟩, ⟨by simp [Value.ownBlock], by simp [Value.ownBlock], by simp⟩, HB2.out.trans (how8.below (Nat.le_refl _))⟩
  · have hpos : 0 < l.length := List.length_pos_iff.2 hne
    have HS0 : Hid (SrcU w v l) := hs
    have Hok : Hid (OkA l) := ok
    have Hl : Hid (l.length ≤ 64) := hl
    have Hne : Hid (l ≠ []) := hne
    obtain ⟨ad, cap, rfl, hcp, hat⟩ := hs
    obtain ⟨g, off, rfl, h3⟩ := hat hpos
    have hgl : g < w.heap.size := World.block_lt_of_cell? w _ (h3 0 hpos 0 (by decide))
    obtain ⟨n, hn⟩ : ∃ n, n = l.length := ⟨_, rfl⟩
    rw [← hn] at HS0 ⊢
    have Hn : Hid (n = l.length) := hn
    have hni : ((n : Int) == 0) = false := by rw [beq_eq_false_iff_ne]; omega
    have hn64 : n ≤ 64 := by omega
    obtain ⟨w0, hw0⟩ : ∃ w0, w0 = (w.alloc (.cells #[.slice none 0 0, .slice none 0 0] 72)).alloc (.cells #[.slice none 0 0, .slice none 0 0] 72) := ⟨_, rfl⟩
    have hsz0 : w0.heap.size = w.heap.size + 1 + 1 := by rw [hw0]; simp
    have HB0 : Hid (Below w.heap.size w w0) := by rw [hw0]; exact ((Below.refl _ _).alloc (Nat.le_refl _) _).alloc (by simp) _
    have HR0 : Hid (w0.heap[w.heap.size]? = some (.cells #[.slice none 0 0, .slice none 0 0] 72 (0, 0))) := by rw [hw0]; exact blk_alloc (blk_new w _) _
    have hF0 : w0.heap[w.heap.size + 1]? = some (.cells #[.slice none 0 0, .slice none 0 0] 72 (0, 0)) := by
      have := blk_new (w.alloc (.cells #[.slice none 0 0, .slice none 0 0] 72)) (.cells #[.slice none 0 0, .slice none 0 0] 72)
      rw [← hw0] at this
      simpa using this
    have HF0 : Hid (Fs w0 (w.heap.size + 1) (.slice none 0 0) (.slice none 0 0) [] [] []) := ⟨hF0, Fr.nil w0, by simp [Value.ownBlock], by simp [Value.ownBlock], by simp⟩
    have HK0 : Hid (Kf w0 (w.heap.size + 1) (.slice none 0 0) (.slice none 0 0) w.heap.size (.cells #[.slice none 0 0, .slice none 0 0] 72 (0, 0))) := ⟨HR0.out, by rintro (e | e | e) <;> first | omega | (simp [Value.ownBlock] at e)⟩
    have HV0 : Hid (Ku w0 (w.heap.size + 1) (.slice none 0 0) (.slice none 0 0) (.slice (some ⟨g, off, none⟩) n cap) l) := by
      refine ⟨HS0.out.keep HB0.out, fun k e => ?_, fun k e o => ?_⟩
      · simp [Value.ownBlock] at e; omega
      · simp [Value.ownBlock] at e
        rcases o with o | o | o
        · omega
        · simp [Value.ownBlock] at o
        · simp [Value.ownBlock] at o
    have hG : Calls Try.prog 48 #[.pointer (some ⟨w.heap.size + 1, 0, none⟩)] w0 fun e w' => e = .returned (.int .i64 0) ∧ ∃ nv', Fs w' (w.heap.size + 1) nv' (.slice none 0 0) [] [pz] [] ∧ Fm w0 w' (w.heap.size + 1) (.slice none 0 0) (.slice none 0 0) nv' (.slice none 0 0) := growC (w.heap.size + 1) _ _ [] [] [] w0 HF0.out (by simp)
    have hw0s : (w.alloc (.cells #[.slice none 0 0, .slice none 0 0] 72)).alloc (.cells #[.slice none 0 0, .slice none 0 0] 72) = w0 := hw0.symm
    obtain ⟨F, hF⟩ : ∃ F, F = w.heap.size + 1 := ⟨_, rfl⟩
    have HFge : Hid (w.heap.size < F) := by show _ < _; omega
    clear hw0 hF0 h3 hcp hpos hn hl ok hne hat
    rw [← hF] at HF0 HK0 HV0 hG
    have hFs : w.heap.size + 1 = F := hF.symm
    have Hsz0 : Hid (w.heap.size ≤ w0.heap.size) := HB0.out.size
    clear hF hsz0
    go_enter Try.func36, Try.ntmps36
    go_wp2_with (go_at_call 48; fail)
    try simp only [hw0s, hFs, World.size_alloc]
    refine hG.mono ?_
    rintro e w1 ⟨rfl, nv1, hf1, hm1⟩
    have HF1 : Hid (Fs w1 F nv1 (.slice none 0 0) [] [pz] []) := hf1
    have HM1 : Hid (Fm w0 w1 F (.slice none 0 0) (.slice none 0 0) nv1 (.slice none 0 0)) := hm1
    clear hf1 hm1 hG hw0s hFs
    go_wp2_with (fail)
    go_loopw [16] (fun vi wr => ∃ (k : Nat) (N1 : List Pn) (G1 : List Lab) (LS1 : List (List Nat)) (nv1 lv1 : Value) (vs1 : List Value), k ≤ n ∧ vi = .int .i64 (k : Int) ∧ Hid (Pla (l.map sr) (tgL l) (lsL l) k N1 G1 LS1) ∧ Hid (Fs wr F nv1 lv1 vs1 N1 LS1) ∧ Hid (Fm w0 wr F (.slice none 0 0) (.slice none 0 0) nv1 lv1) ∧ Hid (Nw w0 [] vs1)) (fun vi _ => n - (intOf vi).toNat)
    case atStart => exact ⟨0, _, _, _, _, _, _, Nat.zero_le _, rfl, Pla.zero _ _ _, HF1, HM1, fun v hv => .inl hv⟩
    case round =>
      obtain ⟨k, N1, G1, LS1, nv1, lv1, vs1, hk, rfl, HH, HF, HM, HNw⟩ := hrel
      have HVr := HV0.out.moved HM.out
      by_cases hlt : k < n
      · have hlt' : k < l.length := by rw [← Hn.out]; exact hlt
        have hlti : (k : Int) < (n : Int) := by omega
        obtain ⟨g', off', e0, hrg⟩ := (rngU HVr.1).2 wr (Below.refl _ _) k hlt'
        cases e0
        have hbd := Hok.out _ (List.getElem_mem hlt')
        have hDk : (l.map sr)[k]'(by simpa using hlt') = sr l[k] := map_at hlt' _
        obtain ⟨p, hp⟩ : ∃ p, p = l[k] := ⟨_, rfl⟩
        rw [← hp] at hrg hbd hDk
        have hqq := okR_sr hbd.2 hbd.1
        have hox := hqq.1
        have hq1 := hqq.2.1
        clear hqq
        obtain ⟨ss, hss⟩ : ∃ ss, ss = sr p := ⟨_, rfl⟩
        have x0 : wr.cell? ⟨g, off + k * 12, none⟩ = some (.int .i64 p.i) := hrg 0 _ rfl
        have x1 : wr.cell? ⟨g, off + k * 12 + 1, none⟩ = some (.int .u32 (ss.1 : Int)) := by rw [hss]; exact hrg 1 _ rfl
        have x2 : wr.cell? ⟨g, off + k * 12 + 2, none⟩ = some (.int .i64 (ss.2 : Int)) := by rw [hss, ← hq1]; exact hrg 2 _ rfl
        have x3 : wr.cell? ⟨g, off + k * 12 + 3, none⟩ = some (.int .u32 (p.d : Int)) := hrg 3 _ rfl
        have x4 : wr.cell? ⟨g, off + k * 12 + 4, none⟩ = some (.int .i64 p.dl) := hrg 4 _ rfl
        have x5 : wr.cell? ⟨g, off + k * 12 + 5, none⟩ = some (.int .u16 (p.p.1 : Int)) := hrg 5 _ rfl
        have x6 : wr.cell? ⟨g, off + k * 12 + 6, none⟩ = some (.int .u16 (p.p.2 : Int)) := hrg 6 _ rfl
        have x7 : wr.cell? ⟨g, off + k * 12 + 7, none⟩ = some (.int .u16 (p.q.1 : Int)) := hrg 7 _ rfl
        have x8 : wr.cell? ⟨g, off + k * 12 + 8, none⟩ = some (.int .u16 (p.q.2 : Int)) := hrg 8 _ rfl
        have x9 : wr.cell? ⟨g, off + k * 12 + 9, none⟩ = some (.int .u8 (p.m.1 : Int)) := hrg 9 _ rfl
        have x10 : wr.cell? ⟨g, off + k * 12 + 10, none⟩ = some (.int .u8 (p.m.2 : Int)) := hrg 10 _ rfl
        have x11 : wr.cell? ⟨g, off + k * 12 + 11, none⟩ = some (.int .i64 p.act) := hrg 11 _ rfl
        rw [← hss] at hDk hox
        have hs1 : ss.1 < 4294967296 := hox.1
        obtain ⟨W1, hW1⟩ : ∃ W1, W1 = wr.alloc (.cells #[.int .i64 p.i, .int .u32 (ss.1 : Int), .int .i64 (ss.2 : Int), .int .u32 (p.d : Int), .int .i64 p.dl, .int .u16 (p.p.1 : Int), .int .u16 (p.p.2 : Int), .int .u16 (p.q.1 : Int), .int .u16 (p.q.2 : Int), .int .u8 (p.m.1 : Int), .int .u8 (p.m.2 : Int), .int .i64 p.act] 46) := ⟨_, rfl⟩
        have hbW : Below wr.heap.size wr W1 := by rw [hW1]; exact (Below.refl _ _).alloc (Nat.le_refl _) _
        have HK1 : Hid (Kf W1 F nv1 lv1 wr.heap.size (.cells #[.int .i64 p.i, .int .u32 (ss.1 : Int), .int .i64 (ss.2 : Int), .int .u32 (p.d : Int), .int .i64 p.dl, .int .u16 (p.p.1 : Int), .int .u16 (p.p.2 : Int), .int .u16 (p.q.1 : Int), .int .u16 (p.q.2 : Int), .int .u8 (p.m.1 : Int), .int .u8 (p.m.2 : Int), .int .i64 p.act] 46 (0, 0))) := by rw [hW1]; exact Kf.new HF.out _
        have HFa : Hid (Fs W1 F nv1 lv1 vs1 N1 LS1) := HF.out.on hbW
        have HMa : Hid (Fm w0 W1 F (.slice none 0 0) (.slice none 0 0) nv1 lv1) := HM.out.trans (Fm.of_below hbW)
        have y1 : W1.cell? ⟨wr.heap.size, 1, none⟩ = some (.int .u32 (ss.1 : Int)) := blk_cell HK1.out.1 rfl
        have y2 : W1.cell? ⟨wr.heap.size, 2, none⟩ = some (.int .i64 (ss.2 : Int)) := blk_cell HK1.out.1 rfl
        have hsm := HH.out.small Hl.out (by omega)
        have hRc := reachC F nv1 lv1 vs1 N1 G1 LS1 0 0 ss W1 HFa.out HH.out.wf HH.out.root (okx_of hox) (by omega)
        clear hrg hbd hp HVr hq1 hss hbW HF HM
        subst hW1
        go_wp2_with (go_at_call 49; fail)
        refine hRc.mono ?_
        rintro e w2 ⟨N2, G2, t, rfl, hR2, nv2, hf2, hm2⟩
        have hRp : Rch N1 G1 0 (pp ((l.map sr)[k]'(by simpa using hlt'))) N2 G2 t := by rw [hDk]; exact hR2
        obtain ⟨x, hx⟩ := hR2.wf.node hR2.here
        obtain ⟨g2, cap2, hnv2, hcap2, d0, d1, d2, hfz2, hxe2⟩ := hf2.at x hx
        have HF2 : Hid (Fs w2 F nv2 lv1 vs1 N2 LS1) := hf2
        have HM2 : Hid (Fm w0 w2 F (.slice none 0 0) (.slice none 0 0) nv2 lv1) := HMa.out.trans hm2
        have HK2 : Hid (Kf w2 F nv2 lv1 wr.heap.size (.cells #[.int .i64 p.i, .int .u32 (ss.1 : Int), .int .i64 (ss.2 : Int), .int .u32 (p.d : Int), .int .i64 p.dl, .int .u16 (p.p.1 : Int), .int .u16 (p.p.2 : Int), .int .u16 (p.q.1 : Int), .int .u16 (p.q.2 : Int), .int .u8 (p.m.1 : Int), .int .u8 (p.m.2 : Int), .int .i64 p.act] 46 (0, 0))) := HK1.out.moved hm2
        obtain ⟨F20, F21⟩ := blk2 hf2.blk
        have htl := pn_lt hx
        have hn2 : N2.length ≤ 200032 := by
          have h1 := hR2.few; have h2 := hR2.wf.len; have h4 := HH.out.wf.len; have h5 : (pp ss).length ≤ 32 := by unfold pp; rw [pth_len]; exact (okx_of hox).2.1
          omega
        obtain ⟨m2, hmm2⟩ : ∃ m2, m2 = N2.length := ⟨_, rfl⟩
        rw [← hmm2] at hnv2 htl
        have Hm2 : Hid (m2 = N2.length) := hmm2
        have hti : (t : Int) < (m2 : Int) := by omega
        have hm2b : (m2 : Int) ≤ 200032 := by omega
        rw [hnv2] at F20
        have y3 : w2.cell? ⟨wr.heap.size, 1, none⟩ = some (.int .u32 (ss.1 : Int)) := blk_cell HK2.out.1 rfl
        have y4 : w2.cell? ⟨wr.heap.size, 2, none⟩ = some (.int .i64 (ss.2 : Int)) := blk_cell HK2.out.1 rfl
        by_cases hc : x.c = 0
        · have hci : ((x.c : Int) == 0) = true := by rw [hc]; rfl
          have HVs : Hid (Ku w2 F nv2 lv1 (.slice (some ⟨g, off, none⟩) n cap) l) := HV0.out.moved HM2.out
          have hHo := holdingC l ss _ w2 HVs.out.1 Hl.out Hok.out hs1
          have HMore : Hid (∀ {N3 : List Pn} {G3 : List Lab} {L3 : List (List Nat)}, Hng N2 G2 LS1 N2.length (tgL l ss) (lsL l ss) (tgL l ss).length N3 G3 L3 → ∀ {y : Pn}, N3[t]? = some y → Pla (l.map sr) (tgL l) (lsL l) (k + 1) (N3.set t (y.bear N2.length)) G3 L3) := fun {N3 G3 L3} H {y} hy => by
            have hlt2 : k < (l.map sr).length := by simpa using hlt'
            have := HH.out.more hlt2 hRp (Okx.of_sr Hok.out) hx hc (N2 := N3) (G2 := G3) (L2 := L3) (by rw [hDk]; exact H) hy
            exact this.2
          have HX : Hid (N2.length ≤ 8388608 ∧ LS1.length ≤ 8388608) := ⟨by omega, by omega⟩
          have HWf : Hid (Wf N2 G2) := hR2.wf
          have HHere : Hid (G2[t]? = some (0, pp ss)) := hR2.here
          clear hRc hf2 hm2 hR2 hRp hx hmm2 hxe2 hDk hox y1 y2 x0 x1 x2 x3 x4 x5 x6 x7 x8 x9 x10 x11 HK1 HFa HMa hc HH hsm hn2
          subst hnv2
          go_wp2_with (go_at_call 51; fail)
          refine hHo.mono ?_
          rintro e w3 ⟨v3, rfl, hr3, hb3⟩
          have HF3 : Hid (Fs w3 F (.slice (some ⟨g2, 0, none⟩) m2 cap2) lv1 vs1 N2 LS1) := HF2.out.on hb3
          have HM3 : Hid (Fm w0 w3 F (.slice none 0 0) (.slice none 0 0) (.slice (some ⟨g2, 0, none⟩) m2 cap2) lv1) := HM2.out.trans (Fm.of_below hb3)
          have hHg := hangC F _ lv1 vs1 N2 G2 LS1 l (holdL l ss) _ v3 w3 HF3.out HWf.out (HVs.out.on hb3) (Ki.row HF2.out hr3) Hok.out Hl.out (Nat.le_trans (holdL_len l ss) Hl.out) (fun i hi => holdL_lt hi) HX.out.1 HX.out.2
          rw [← Hm2.out] at hHg
          obtain ⟨a3, c3, rfl, _⟩ := hr3.form
          rw [ofN_len] at hHg ⊢
          clear hHo hb3 hr3 HF2 HM2 HK2 d0 d1 d2 F20 F21 hfz2 y3 y4
          go_wp2_with (go_at_call 50; fail)
          refine hHg.mono ?_
          rintro e w4 ⟨N4, G4, LS4, rfl, hH4, nv4, lv4, vs4, hf4, hm4, hnw4⟩
          rw [Hm2.out] at hH4
          obtain ⟨y, hy⟩ := hH4.wf.node (hH4.ext _ _ HHere.out)
          obtain ⟨g4, cap4, hnv4, hcap4, d0, d1, d2, hfz4, hye4⟩ := hf4.at y hy
          have HP4 : Hid (Pla (l.map sr) (tgL l) (lsL l) (k + 1) (N4.set t (y.bear N2.length)) G4 LS4) := HMore.out hH4 hy
          obtain ⟨F40, F41⟩ := blk2 hf4.blk
          have htl4 := pn_lt hy
          obtain ⟨m4, hmm4⟩ : ∃ m4, m4 = N4.length := ⟨_, rfl⟩
          rw [← hmm4] at hnv4 htl4
          rw [hnv4] at F40
          have ht4 : (t : Int) < (m4 : Int) := by omega
          subst hnv4
          have hset := hf4.cell t 2 (pn_lt hy) (by decide) (y.bear N2.length) (.int .i64 (m2 : Int)) (by rw [← hye4, enc_bear, Hm2.out])
          have HF5 : Hid _ := hset.1
          have HM5 : Hid _ := (HM3.out.trans hm4).trans hset.2
          have HNw5 : Hid (Nw w0 [] vs4) := fun v hv => by
            rcases hnw4 v hv with e | e
            · exact HNw.out v e
            · exact .inr fun k hk => Nat.le_trans HM3.out.size (e k hk)
          have hz4 := hfz4 (t * 3 + 2)
          clear hset hfz4 hye4 hf4 hm4 hnw4 hH4 hHg HF3 HM3 hmm4 hy
          go_wp2_with (fail)
          go_roundw
          case rel => exact ⟨k + 1, _, _, _, _, _, _, by omega, by go_num, HP4, HF5, HM5, HNw5⟩
          case measure => simp [intOf]; omega
        · have hci : ((x.c : Int) == 0) = false := by rw [beq_eq_false_iff_ne]; omega
          have HH2 : Hid (Pla (l.map sr) (tgL l) (lsL l) (k + 1) N2 G2 LS1) := HH.out.again (by simpa using hlt') hRp (Okx.of_sr Hok.out) hx hc
          clear hRc hf2 hm2 hR2 hRp hx hmm2 hxe2 hDk hox y1 y2 x0 x1 x2 x3 x4 x5 x6 x7 x8 x9 x10 x11 HK1 HFa HMa hc HH
          go_wp2_with (fail)
          go_roundw
          case rel => exact ⟨k + 1, _, _, _, _, _, _, by omega, by go_num, HH2, HF2, HM2, HNw⟩
          case measure => simp [intOf]; omega
      · obtain rfl : k = n := by omega
        have hni2 : ¬ (k : Int) < (k : Int) := by omega
        have HP : Hid (Plt l N1 LS1) := .inr ⟨Hne.out, G1, by rw [← Hn.out]; exact HH.out⟩
        have HKr := HK0.out.moved HM.out
        obtain ⟨F0, F1⟩ := blk2 HF.out.blk
        obtain ⟨adn, capn, hnv, _, _⟩ := HF.out.fr.nod.form
        obtain ⟨adl, capl, hlv, _, _⟩ := HF.out.fr.lst.form
        have hFR : ¬ w.heap.size = F := by have := HFge.out; omega
        generalize N1.length = nn at hnv
        generalize vs1.length = nl at hlv
        subst hnv hlv
        have HFrn : Hid (Frn w.heap.size (.slice adn nn capn) (.slice adl nl capl) vs1) := by
          refine ⟨fun k e => ?_, fun k e => ?_, fun v hv k e => ?_⟩
          · rcases HM.out.own k (.inr (.inl e)) with (o | o | o) | o
            · have := HFge.out; omega
            · simp [Value.ownBlock] at o
            · simp [Value.ownBlock] at o
            · have := Hsz0.out; omega
          · rcases HM.out.own k (.inr (.inr e)) with (o | o | o) | o
            · have := HFge.out; omega
            · simp [Value.ownBlock] at o
            · simp [Value.ownBlock] at o
            · have := Hsz0.out; omega
          · rcases HNw.out v hv with e' | e'
            · simp at e'
            · have := e' k e; have := Hsz0.out; omega
        have HBr : Hid (Below w.heap.size w wr) := HB0.out.trans (HM.out.below Hsz0.out (by
          rintro k (o | o | o)
          · have := HFge.out; omega
          · simp [Value.ownBlock] at o
          · simp [Value.ownBlock] at o))
        go_wp2_with (refine wpList_store_blk rfl 72 (.tmp 2) (.tmp 44) rfl w.heap.size 0 #[.slice adn nn capn, .slice adl nl capl] #[.slice adn nn capn, .slice adl nl capl] rfl rfl 72 _ HKr.1 (Nat.le_of_ble_eq_true rfl) rfl (by kernel_rfl) rfl ?_; intro w8 hw8 how8)
        refine bodyPost_ret (results_blk Try.results36 rfl hw8 Try.underlying72 rfl (by kernel_rfl)) rfl ?_
        exact ⟨_, _, rfl, vs1, N1, LS1, HF.out.fr.only how8 (fun e => HKr.2 (.inr (.inl e))) (fun e => HKr.2 (.inr (.inr e))) (fun v hv e => by have := HNw.out v hv; rcases this with a | a; (simp at a); (have := a _ e; have := HB0.out.size; have h9 := Hsz0.out; exact absurd (blk_lt HR0.out) (by omega))), HP.out, HFrn.out, HBr.out.trans (how8.below (Nat.le_refl _))⟩
end Go.Proofs.Ytcpcljdnkekogaa
/-
  prune's entries; the stock's first.
-/
namespace Go.Proofs.Ytcpcljdnkekogaa
open Go.RowKit
set_option linter.unusedVariables false
set_option linter.unusedSimpArgs false

theorem pnTot_step {LS : List (List Nat)} {k : Nat} (h : k < LS.length) : pnTot (LS.take (k + 1)) = pnTot (LS.take k) + LS[k].length := by rw [take_at h, pnTot_app]
theorem pnTot_take (LS : List (List Nat)) (k : Nat) : pnTot (LS.take k) ≤ pnTot LS := by
  have : LS = LS.take k ++ LS.drop k := (List.take_append_drop k LS).symm
  have e : pnTot LS = pnTot (LS.take k) + pnTot (LS.drop k) := by
    conv => lhs; rw [this]
    unfold pnTot; rw [List.map_append, List.sum_append]
  omega
set_option maxHeartbeats 4000000 in
set_option maxRecDepth 20000 in
theorem entriesC (B o : Nat) (nv lv : Value) (vs : List Value) (N : List Pn) (LS : List (List Nat)) (w : World) (hF : Fo w B o nv lv vs N LS) (hb : pnTot LS ≤ 16777216) (hLS : LS.length ≤ 16777216) :
    Calls Try.prog 26 #[.pointer (some ⟨B, o, none⟩)] w fun e w' => e = .returned (.int .i64 (pnTot LS : Nat)) ∧ Below w.heap.size w w' := by
  have HF : Hid (Fo w B o nv lv vs N LS) := hF
  have c1 := hF.c1
  obtain ⟨ad, cap, hlv, _, _⟩ := hF.fr.lst.form
  rw [hF.fr.len] at hlv
  have HL : Hid (∀ W, Below w.heap.size w W → ∀ k (hk : k < LS.length), ∃ g u, ad = some ⟨g, 0, none⟩ ∧ W.cell? ⟨g, k, none⟩ = some u ∧ ∃ a c, u = .slice a (LS[k]'hk).length c) := fun W hb k hk => by
    obtain ⟨g, cap', u, e, hc, hs, _⟩ := (HF.out.on hb).fr.list (List.getElem?_eq_getElem hk)
    rw [hlv] at e
    injection e with e1 _ _
    obtain ⟨a, c, e2⟩ := hs.len
    rw [ofN_len] at e2
    exact ⟨g, u, e1, hc, a, c, e2⟩
  obtain ⟨m, hm⟩ : ∃ m, m = LS.length := ⟨_, rfl⟩
  have Hm : Hid (m = LS.length) := hm
  have HT : Hid (pnTot LS = pnTot (LS.take m)) := by rw [hm, List.take_length]; rfl
  rw [← hm] at hlv hLS
  obtain ⟨C, hC⟩ : ∃ C, C = pnTot LS := ⟨_, rfl⟩
  have HBd : Hid (∀ k, pnTot (LS.take k) ≤ 16777216) := fun k => Nat.le_trans (pnTot_take LS k) hb
  rw [← hC] at HT ⊢
  subst hlv
  clear hF hm hC hb
  go_enter Try.func26, Try.ntmps26
  go_wp2_with (fail)
  go_loopw [3, 11] (fun vs vi wr => ∃ k : Nat, k ≤ m ∧ vs = .int .i64 ((pnTot (LS.take k) : Nat) : Int) ∧ vi = .int .i64 (k : Int) ∧ Hid (Below w.heap.size w wr)) (fun _ vi _ => m - (intOf vi).toNat)
  case atStart => exact ⟨0, Nat.zero_le _, rfl, rfl, Below.refl _ _⟩
  case round =>
    obtain ⟨k, hk, rfl, rfl, HB⟩ := hrel
    by_cases hlt : k < m
    · have hlt' : k < LS.length := by rw [← Hm.out]; exact hlt
      have hlti : (k : Int) < (m : Int) := by omega
      obtain ⟨g, u, rfl, hc, a, c, rfl⟩ := HL.out wr HB.out k hlt'
      have Hst : Hid _ := pnTot_step hlt'
      have hb1 := HBd.out k
      have hb2 := HBd.out (k + 1)
      rw [Hst.out] at hb2
      generalize LS[k].length = q at *
      generalize pnTot (LS.take k) = T0 at *
      go_wp2_with (fail)
      go_roundw
      case rel => exact ⟨k + 1, by omega, by rw [Hst.out]; go_num, by go_num, HB⟩
      case measure => simp [intOf]; omega
    · obtain rfl : k = m := by omega
      have hni : ¬ (k : Int) < (k : Int) := by omega
      go_wp2
      go_ret
      exact ⟨ret_int (by rw [HT.out]), HB.out⟩
/-- How many rules are held against a header. -/
def cntF (l : List Ru) (h : Hd) : List Nat → Nat → Nat
  | [], b => b
  | i :: ps, b => if matchR (ruAt l i) h = true then b + 1 else cntF l h ps (b + 1)
def cntR (l : List Ru) (h : Hd) : Nat := cntF l h (prsL l h) 0
theorem cntF_hit {l : List Ru} {h : Hd} {ps : List Nat} {k : Nat} (hk : k < ps.length) (e : matchR (ruAt l ps[k]) h = true) : cntF l h (ps.drop k) k = k + 1 := by
  rw [List.drop_eq_getElem_cons hk, cntF, if_pos e]
theorem cntF_no {l : List Ru} {h : Hd} {ps : List Nat} {k : Nat} (hk : k < ps.length) (e : matchR (ruAt l ps[k]) h = false) : cntF l h (ps.drop k) k = cntF l h (ps.drop (k + 1)) (k + 1) := by
  rw [List.drop_eq_getElem_cons hk, cntF, if_neg (by rw [e]; simp)]
theorem cntF_end {l : List Ru} {h : Hd} {ps : List Nat} {k : Nat} (hk : ps.length ≤ k) : cntF l h (ps.drop k) k = k := by
  rw [List.drop_eq_nil_of_le hk, cntF]
theorem cntF_le (l : List Ru) (h : Hd) : ∀ (ps : List Nat) (b : Nat), cntF l h ps b ≤ b + ps.length
  | [], b => by simp [cntF]
  | i :: ps, b => by
    have := cntF_le l h ps (b + 1)
    unfold cntF
    split <;> simp only [List.length_cons] <;> omega
theorem cntF_ge (l : List Ru) (h : Hd) : ∀ (ps : List Nat) (b : Nat), b ≤ cntF l h ps b
  | [], b => by simp [cntF]
  | i :: ps, b => by
    have := cntF_ge l h ps (b + 1)
    unfold cntF
    split <;> omega
theorem cntR_le (l : List Ru) (h : Hd) : cntR l h ≤ (prsL l h).length := by have := cntF_le l h (prsL l h) 0; unfold cntR; omega
theorem cntR_pos {l : List Ru} (o : OkA l) {h : Hd} (hm : mat l h ≠ -1) : 1 ≤ cntR l h := by
  unfold cntR
  cases hp : prsL l h with
  | nil => exact absurd (mat_prs_none o (by rw [hp]; simp)) hm
  | cons i ps =>
    have := cntF_ge l h ps 1
    unfold cntF
    split <;> omega
theorem vd_at {l : List Ru} {A : Int} {k : Nat} (hk : k < l.length) : vdH (k : Int) = true ∧ vdI l (k : Int) = (ruAt l k).i ∧ vdA A l (k : Int) = (ruAt l k).act := by
  rw [ruAt_at hk]
  exact ⟨by unfold vdH; simp, vdI_at hk, vdA_at hk⟩
set_option maxHeartbeats 8000000 in
set_option maxRecDepth 20000 in
theorem firstC (X t : Nat) (v : Value) (M A0 A : Int) (l : List Ru) (h : Hd) (u : Value) (w : World) (c0 : w.cell? ⟨X, 0, none⟩ = some (.pointer (some ⟨t, 0, none⟩))) (c1 : w.cell? ⟨X, 1, none⟩ = some (.int .i64 A)) (hT : Tab w t v M A0 l) (hu : SrcI w u (ofN (prsL l h))) (ok : OkA l) (hl : l.length ≤ 64) (oh : OkH h) :
    Calls Try.prog 25 #[.pointer (some ⟨X, 0, none⟩), u, .agg #[.int .u32 (h.s : Int), .int .u32 (h.d : Int), .int .u16 (h.p : Int), .int .u16 (h.q : Int), .int .u8 (h.r : Int)]] w fun e w' => e = .returned (.tuple #[.agg #[.bool (vdH (mat l h)), .int .i64 (vdI l (mat l h)), .int .i64 (vdA A l (mat l h))], .int .i64 (cntR l h : Nat)]) ∧ Below w.heap.size w w' := by
  have HT : Hid (Tab w t v M A0 l) := hT
  have HU : Hid (SrcI w u (ofN (prsL l h))) := hu
  have Hok : Hid (OkA l) := ok
  have Hl : Hid (l.length ≤ 64) := hl
  have Hc0 : Hid (w.cell? ⟨X, 0, none⟩ = some (.pointer (some ⟨t, 0, none⟩))) := c0
  have Hc1 : Hid (w.cell? ⟨X, 1, none⟩ = some (.int .i64 A)) := c1
  have Hlt : Hid (∀ i ∈ prsL l h, i < l.length) := fun i hi => prs_lt hi
  have HAt : Hid (∀ (k : Nat) (hk : k < (prsL l h).length), (∀ (j : Nat) (hj : j < (prsL l h).length), j < k → matchR (ruAt l ((prsL l h)[j]'hj)) h = false) → matchR (ruAt l ((prsL l h)[k]'hk)) h = true → mat l h = (((prsL l h)[k]'hk : Nat) : Int)) := fun k hk hh => mat_prs_at ok hk (fun j hj => hh j (by omega) hj)
  have HNo : Hid ((∀ i ∈ prsL l h, matchR (ruAt l i) h = false) → mat l h = -1) := mat_prs_none ok
  have hpl : (prsL l h).length ≤ 64 := Nat.le_trans (Nat.le_trans (List.length_filter_le _ _) (by simp)) hl
  have HC0 : Hid (cntR l h = cntF l h ((prsL l h).drop 0) 0) := rfl
  obtain ⟨C, hC⟩ : ∃ C, C = cntR l h := ⟨_, rfl⟩
  obtain ⟨K, hK⟩ : ∃ K, K = mat l h := ⟨_, rfl⟩
  rw [← hC] at HC0 ⊢
  rw [← hK] at HAt HNo ⊢
  generalize hps : prsL l h = ps at *
  clear hps hC hK
  obtain ⟨au, cu, hue⟩ := hu.len
  rw [ofN_len] at hue
  subst hue
  obtain ⟨m, hm⟩ : ∃ m, m = ps.length := ⟨_, rfl⟩
  have Hm : Hid (m = ps.length) := hm
  rw [← hm] at HU hpl ⊢
  clear hT hu ok hl c0 c1 hm
  have hXl : X < w.heap.size := World.block_lt_of_cell? w _ Hc0.out
  obtain ⟨w0, hw0⟩ : ∃ w0, w0 = (w.alloc (.cells #[.int .u32 (h.s : Int), .int .u32 (h.d : Int), .int .u16 (h.p : Int), .int .u16 (h.q : Int), .int .u8 (h.r : Int)] 55)).alloc (.cells #[.bool false, .int .i64 0, .int .i64 0] 49) := ⟨_, rfl⟩
  have HB0 : Hid (Below w.heap.size w w0) := by rw [hw0]; exact ((Below.refl _ _).alloc (Nat.le_refl _) _).alloc (by simp) _
  have HH0 : Hid (w0.heap[w.heap.size]? = some (.cells #[.int .u32 (h.s : Int), .int .u32 (h.d : Int), .int .u16 (h.p : Int), .int .u16 (h.q : Int), .int .u8 (h.r : Int)] 55 (0, 0))) := by rw [hw0]; exact blk_alloc (blk_new w _) _
  have HV0 : Hid (w0.heap[w.heap.size + 1]? = some (.cells #[.bool false, .int .i64 0, .int .i64 0] 49 (0, 0))) := by
    have := blk_new (w.alloc (.cells #[.int .u32 (h.s : Int), .int .u32 (h.d : Int), .int .u16 (h.p : Int), .int .u16 (h.q : Int), .int .u8 (h.r : Int)] 55)) (.cells #[.bool false, .int .i64 0, .int .i64 0] 49)
    rw [← hw0] at this
    show _ = _
    simpa using this
  have Hsz : Hid (w0.heap.size = w.heap.size + 1 + 1) := by show _ = _; rw [hw0]; simp
  have hw0s : (w.alloc (.cells #[.int .u32 (h.s : Int), .int .u32 (h.d : Int), .int .u16 (h.p : Int), .int .u16 (h.q : Int), .int .u8 (h.r : Int)] 55)).alloc (.cells #[.bool false, .int .i64 0, .int .i64 0] 49) = w0 := hw0.symm
  have hBv : w.heap.size + 1 = (w.alloc (.cells #[.int .u32 (h.s : Int), .int .u32 (h.d : Int), .int .u16 (h.p : Int), .int .u16 (h.q : Int), .int .u8 (h.r : Int)] 55)).heap.size := by simp
  obtain ⟨Bv, hBve⟩ : ∃ Bv, Bv = w.heap.size + 1 := ⟨_, rfl⟩
  rw [← hBve] at HV0
  have HBv : Hid (Bv = w.heap.size + 1) := hBve
  have hBs : w.heap.size + 1 = Bv := hBve.symm
  clear hw0 hBv hBve
  go_enter Try.func25, Try.ntmps25
  go_wp2_with (fail)
  try simp only [hw0s, hBs, World.size_alloc]
  clear hw0s hBs
  go_loopw [14] (fun vi wr => ∃ k : Nat, k ≤ m ∧ vi = .int .i64 (k : Int) ∧ Hid (Below w0.heap.size w0 wr) ∧ Hid (C = cntF l h (ps.drop k) k) ∧ Hid (∀ (j : Nat) (hj : j < ps.length), j < k → matchR (ruAt l (ps[j]'hj)) h = false)) (fun vi _ => m - (intOf vi).toNat)
  case atStart => exact ⟨0, Nat.zero_le _, rfl, Below.refl _ _, HC0.out, fun j _ hj => by omega⟩
  case round =>
    obtain ⟨k, hk, rfl, HB, HCk, HNk⟩ := hrel
    have HBw : Hid (Below w.heap.size w wr) := bel_of HB0.out HB.out HB0.out.size
    have hx0 := cell_on1 HBw.out Hc0.out
    have hx1 := cell_on1 HBw.out Hc1.out
    by_cases hlt : k < m
    · have hlt' : k < ps.length := by rw [← Hm.out]; exact hlt
      have hlti : (k : Int) < (m : Int) := by omega
      obtain ⟨gu, ou, rfl, hcu⟩ := SrcI.at (HU.out.keep HBw.out) (k := k) (by rw [ofN_len]; exact hlt')
      rw [ofN_at] at hcu
      have hi := Hlt.out _ (List.getElem_mem hlt')
      have HAk : Hid (matchR (ruAt l ps[k]) h = true → K = (ps[k] : Nat)) := fun e => HAt.out k hlt' HNk.out e
      have Hhit : Hid (matchR (ruAt l ps[k]) h = true → C = k + 1) := fun e => HCk.out.trans (cntF_hit hlt' e)
      have Hno : Hid (matchR (ruAt l ps[k]) h = false → C = cntF l h (ps.drop (k + 1)) (k + 1)) := fun e => HCk.out.trans (cntF_no hlt' e)
      have HNn : Hid (matchR (ruAt l ps[k]) h = false → ∀ (j : Nat) (hj : j < ps.length), j < k + 1 → matchR (ruAt l (ps[j]'hj)) h = false) := fun e j hj hjk => by
        by_cases ej : j = k
        · subst ej; exact e
        · exact HNk.out j hj (by omega)
      obtain ⟨i, hie⟩ : ∃ i, i = ps[k] := ⟨_, rfl⟩
      rw [← hie] at hi hcu HAk Hhit Hno HNn
      have hbd := Hok.out _ (List.getElem_mem hi)
      obtain ⟨p, hp⟩ : ∃ p, p = l[i] := ⟨_, rfl⟩
      have hpr : ruAt l i = p := by rw [ruAt_at hi, hp]
      rw [hpr] at HAk Hhit Hno HNn
      rw [← hp] at hbd
      have Hvd : Hid (vdH (i : Int) = true ∧ vdI l (i : Int) = p.i ∧ vdA A l (i : Int) = p.act) := by have := vd_at (A := A) hi; rw [hpr] at this; exact this
      have hA := fun W (hb : Below w.heap.size w W) => at_in t v M A0 l i W (HT.out.on hb) (Nat.le_trans Hl.out (by decide)) hi p hp
      have hM := fun W => matchC p h W hbd.1 oh
      clear hie hp hpr hbd hi
      go_wp2_with (go_at_call 38; fail)
      refine (hA _ HBw.out).mono ?_
      rintro e w3 ⟨rfl, hb3⟩
      have HB3 : Hid (Below w0.heap.size w0 w3) := bel_of HB.out hb3 HB.out.size
      have HX3 : Hid ((w3.alloc (.cells #[.int .i64 p.i, .int .u32 (p.s : Int), .int .i64 p.sl, .int .u32 (p.d : Int), .int .i64 p.dl, .int .u16 (p.p.1 : Int), .int .u16 (p.p.2 : Int), .int .u16 (p.q.1 : Int), .int .u16 (p.q.2 : Int), .int .u8 (p.m.1 : Int), .int .u8 (p.m.2 : Int), .int .i64 p.act] 46)).heap[w3.heap.size]? = some (.cells #[.int .i64 p.i, .int .u32 (p.s : Int), .int .i64 p.sl, .int .u32 (p.d : Int), .int .i64 p.dl, .int .u16 (p.p.1 : Int), .int .u16 (p.p.2 : Int), .int .u16 (p.q.1 : Int), .int .u16 (p.q.2 : Int), .int .u8 (p.m.1 : Int), .int .u8 (p.m.2 : Int), .int .i64 p.act] 46 (0, 0))) := blk_new w3 _
      have hb34 : Below w3.heap.size w3 (w3.alloc (.cells #[.int .i64 p.i, .int .u32 (p.s : Int), .int .i64 p.sl, .int .u32 (p.d : Int), .int .i64 p.dl, .int .u16 (p.p.1 : Int), .int .u16 (p.p.2 : Int), .int .u16 (p.q.1 : Int), .int .u16 (p.q.2 : Int), .int .u8 (p.m.1 : Int), .int .u8 (p.m.2 : Int), .int .i64 p.act] 46)) := (Below.refl _ _).alloc (Nat.le_refl _) _
      have HB4 : Hid (Below w0.heap.size w0 (w3.alloc (.cells #[.int .i64 p.i, .int .u32 (p.s : Int), .int .i64 p.sl, .int .u32 (p.d : Int), .int .i64 p.dl, .int .u16 (p.p.1 : Int), .int .u16 (p.p.2 : Int), .int .u16 (p.q.1 : Int), .int .u16 (p.q.2 : Int), .int .u8 (p.m.1 : Int), .int .u8 (p.m.2 : Int), .int .i64 p.act] 46))) := HB3.out.trans (hb34.mono HB3.out.size)
      obtain ⟨y0, y1, y2, y3, y4, y5, y6, y7, y8, y9, y10, y11⟩ := blk12 HX3.out
      have hh4 : (w3.alloc (.cells #[.int .i64 p.i, .int .u32 (p.s : Int), .int .i64 p.sl, .int .u32 (p.d : Int), .int .i64 p.dl, .int .u16 (p.p.1 : Int), .int .u16 (p.p.2 : Int), .int .u16 (p.q.1 : Int), .int .u16 (p.q.2 : Int), .int .u8 (p.m.1 : Int), .int .u8 (p.m.2 : Int), .int .i64 p.act] 46)).heap[w.heap.size]? = some (.cells #[.int .u32 (h.s : Int), .int .u32 (h.d : Int), .int .u16 (h.p : Int), .int .u16 (h.q : Int), .int .u8 (h.r : Int)] 55 (0, 0)) := blk_on HH0.out HB4.out
      obtain ⟨z0, z1, z2, z3, z4⟩ := blk5 hh4
      clear hb3 hb34 hA hcu hx0 hx1 hh4
      go_wp2_with (go_at_call 39; fail)
      refine (hM _).mono ?_
      rintro e w5 ⟨rfl, hb5⟩
      have HB5 : Hid (Below w0.heap.size w0 w5) := bel_of HB4.out hb5 HB4.out.size
      have HX5 : Hid (w5.heap[w3.heap.size]? = some (.cells #[.int .i64 p.i, .int .u32 (p.s : Int), .int .i64 p.sl, .int .u32 (p.d : Int), .int .i64 p.dl, .int .u16 (p.p.1 : Int), .int .u16 (p.p.2 : Int), .int .u16 (p.q.1 : Int), .int .u16 (p.q.2 : Int), .int .u8 (p.m.1 : Int), .int .u8 (p.m.2 : Int), .int .i64 p.act] 46 (0, 0))) := blk_on HX3.out hb5
      clear hb5 hM y0 y1 y2 y3 y4 y5 y6 y7 y8 y9 y10 y11 z0 z1 z2 z3 z4
      cases hmt : matchR p h with
      | false =>
        have HE1 : Hid _ := Hno.out hmt
        have HE2 : Hid _ := HNn.out hmt
        clear hmt
        go_wp2_with (fail)
        go_roundw
        case rel => exact ⟨k + 1, by omega, by go_num, HB5.out, HE1.out, HE2.out⟩
        case measure => simp [intOf]; omega
      | true =>
        have HE1 : Hid (C = k + 1) := Hhit.out hmt
        have HE2 : Hid (K = (i : Int)) := HAk.out hmt
        clear hmt
        have y0 : w5.cell? ⟨w3.heap.size, 0, none⟩ = some (.int .i64 p.i) := blk_cell HX5.out rfl
        have y11 : w5.cell? ⟨w3.heap.size, 11, none⟩ = some (.int .i64 p.act) := blk_cell HX5.out rfl
        have hV5 : w5.heap[Bv]? = some (.cells #[.bool false, .int .i64 0, .int .i64 0] 49 (0, 0)) := blk_on HV0.out HB5.out
        have HV5 : Hid _ := hV5
        clear hV5
        go_wp2_with (refine wpList_store_blk rfl 49 (.tmp 6) (.tmp 35) rfl Bv 0 #[.bool true, .int .i64 p.i, .int .i64 p.act] #[.bool true, .int .i64 p.i, .int .i64 p.act] rfl rfl 49 _ HV5.out (Nat.le_of_ble_eq_true rfl) rfl (by kernel_rfl) rfl ?_; intro w8 hw8 how8)
        refine bodyPost_ret (results_blk2 Try.results25 rfl hw8 Try.underlying49 rfl (by kernel_rfl)) rfl ?_
        refine ⟨?_, (bel_of HB0.out HB5.out HB0.out.size).trans (how8.below (by have := HBv.out; omega))⟩
        rw [HE1.out, HE2.out, Hvd.out.1, Hvd.out.2.1, Hvd.out.2.2]
        rfl
    · obtain rfl : k = m := by omega
      have hni : ¬ (k : Int) < (k : Int) := by omega
      have HE1 : Hid (C = k) := HCk.out.trans (cntF_end (by rw [← Hm.out]; exact Nat.le_refl _))
      have HE2 : Hid (K = -1) := HNo.out fun i hi => by
        obtain ⟨j, hj, e⟩ := List.mem_iff_getElem.1 hi
        rw [← e]; exact HNk.out j hj (by rw [Hm.out]; exact hj)
      have HV5 : Hid (wr.heap[Bv]? = some (.cells #[.bool false, .int .i64 0, .int .i64 0] 49 (0, 0))) := blk_on HV0.out HB.out
      go_wp2_with (refine wpList_store_blk rfl 49 (.tmp 6) (.tmp 43) rfl Bv 0 #[.bool false, .int .i64 0, .int .i64 A] #[.bool false, .int .i64 0, .int .i64 A] rfl rfl 49 _ HV5.out (Nat.le_of_ble_eq_true rfl) rfl (by kernel_rfl) rfl ?_; intro w8 hw8 how8)
      refine bodyPost_ret (results_blk2 Try.results25 rfl hw8 Try.underlying49 rfl (by kernel_rfl)) rfl ?_
      refine ⟨?_, HBw.out.trans (how8.below (by have := HBv.out; omega))⟩
      rw [HE1.out, HE2.out]
      rfl
end Go.Proofs.Ytcpcljdnkekogaa
