/-
  The mathematics of grid's tries: nodes in one list, each known by the root below which it stands and the bits that lead to it; the switches.
-/
import Derived.Test.YtgidohnikggjfaaGreatPnPl
namespace Go.Proofs.YtgidohnikggjfaaGreat
set_option linter.unusedVariables false
set_option linter.unusedSimpArgs false

/-- The node at a place. -/
def nd (N : List Pn) (i : Nat) : Pn := N.getD i pz
theorem nd_at {N : List Pn} {i : Nat} {x : Pn} (h : N[i]? = some x) : nd N i = x := by unfold nd; rw [List.getD_eq_getElem?_getD, h]; rfl
theorem nd_some {N : List Pn} {i : Nat} (h : i < N.length) : N[i]? = some (nd N i) := by unfold nd; rw [List.getD_eq_getElem?_getD, List.getElem?_eq_getElem h]; rfl
theorem nd_out {N : List Pn} {i : Nat} (h : N.length ≤ i) : nd N i = pz := by unfold nd; rw [List.getD_eq_getElem?_getD, List.getElem?_eq_none h]; rfl
/-- Where a label stands; 0: nowhere. -/
def ix (G : List Lab) (x : Lab) : Nat := if x ∈ G then G.idxOf x else 0
theorem ix_get {G : List Lab} {x : Lab} (h : x ∈ G) : G[ix G x]? = some x := by
  unfold ix
  rw [if_pos h]
  have h1 : G.idxOf x < G.length := List.idxOf_lt_length_iff.2 h
  rw [List.getElem?_eq_getElem h1, List.getElem_idxOf h1]
theorem ix_at {G : List Lab} {x : Lab} (h : ix G x ≠ 0) : G[ix G x]? = some x := by
  by_cases e : x ∈ G
  · exact ix_get e
  · exact absurd (if_neg e) h
theorem ix_no {G : List Lab} {x : Lab} (h : ∀ i : Nat, G[i]? ≠ some x) : ix G x = 0 := if_neg fun e => by
  exact h _ (ix_get e)
/-- Node 0 stands for none; node 1 is the root of the sources. -/
structure Gw (N : List Pn) (G : List Lab) : Prop where
  wf : Wf N G
  z : G[0]? = some (0, [])
  zo : ∀ (i : Nat) (q : List Nat), G[i]? = some (0, q) → q = []
  r1 : G[1]? = some (1, [])
  bit : ∀ (i r : Nat) (q : List Nat), G[i]? = some (r, q) → ∀ b ∈ q, b < 2
theorem Gw.ix_of {N : List Pn} {G : List Lab} (h : Gw N G) {i : Nat} {x : Lab} (e : G[i]? = some x) : ix G x = i :=
  h.wf.nod _ _ x (ix_get (List.mem_of_getElem? e)) e
theorem Gw.ix_zero {N : List Pn} {G : List Lab} (h : Gw N G) (q : List Nat) : ix G (0, q) = 0 := by
  by_cases e : (0, q) ∈ G
  · obtain ⟨i, hi⟩ := List.mem_iff_getElem?.1 e
    have e0 := h.zo i q hi
    subst e0
    rw [h.ix_of hi]
    exact h.wf.nod _ _ _ hi h.z
  · exact if_neg e
theorem Gw.ix_none {N : List Pn} {G : List Lab} (h : Gw N G) {x : Lab} (e : ix G x = 0) (hx : x.1 ≠ 0) (i : Nat) : G[i]? ≠ some x := fun hi => by
  have := h.ix_of hi
  rw [e] at this
  subst this
  rw [h.z] at hi
  exact hx (congrArg Prod.fst (Option.some.inj hi)).symm
theorem Gw.ix_pre {N : List Pn} {G : List Lab} (h : Gw N G) {r : Nat} {q : List Nat} (t : Nat) (e : ix G (r, q) = 0) : ix G (r, q ++ [t]) = 0 := by
  by_cases hr : r = 0
  · subst hr; exact h.ix_zero _
  · refine ix_no fun i hi => ?_
    obtain ⟨j, hj⟩ := h.wf.pre i r q t hi
    exact h.ix_none e hr j hj
theorem Gw.ix_up {N : List Pn} {G : List Lab} (h : Gw N G) {r : Nat} {q : List Nat} : ∀ p : List Nat, ix G (r, q) = 0 → ix G (r, q ++ p) = 0
  | [], e => by rw [List.append_nil]; exact e
  | t :: p, e => by
    have := Gw.ix_up h (q := q ++ [t]) p (h.ix_pre t e)
    rw [List.append_assoc] at this
    exact this
theorem Gw.ix_under {N : List Pn} {G : List Lab} (h : Gw N G) {r : Nat} {q p : List Nat} (hp : q <+: p) (e : ix G (r, q) = 0) : ix G (r, p) = 0 := by
  obtain ⟨u, rfl⟩ := hp
  exact h.ix_up u e
theorem Gw.nd0 {N : List Pn} {G : List Lab} (h : Gw N G) {t : Nat} (ht : t < 2) : (nd N 0).kid t = 0 := by
  obtain ⟨x, hx⟩ := h.wf.node h.z
  rw [nd_at hx]
  apply Classical.byContradiction
  intro e
  have := h.zo _ _ (h.wf.up 0 x 0 [] t hx h.z ht e)
  simp at this
/-- The kids are the nodes of one bit more. -/
theorem Gw.kid {N : List Pn} {G : List Lab} (h : Gw N G) (r : Nat) (q : List Nat) {t : Nat} (ht : t < 2) : (nd N (ix G (r, q))).kid t = ix G (r, q ++ [t]) := by
  by_cases e : ix G (r, q) = 0
  · rw [e, h.ix_pre t e, h.nd0 ht]
  · have hg := ix_at e
    obtain ⟨x, hx⟩ := h.wf.node hg
    rw [nd_at hx]
    by_cases k : x.kid t = 0
    · rw [k, ix_no (h.wf.no _ x r q t hx hg ht k)]
    · exact (h.ix_of (h.wf.up _ x r q t hx hg ht k)).symm
theorem Gw.ix_lt {N : List Pn} {G : List Lab} (h : Gw N G) (x : Lab) : ix G x < N.length := by
  rw [h.wf.len]
  by_cases e : x ∈ G
  · exact pn_lt (ix_get e)
  · rw [ix, if_neg e]; exact pn_lt h.z
/-- Of the sources along qs, the first k of them, the longest that has the destination dq: where that stands. -/
def nf (G : List Lab) (B : List Nat → Nat) (qs dq : List Nat) : Nat → Nat
  | 0 => 0
  | k + 1 => if ix G (B (qs.take k), dq) = 0 then nf G B qs dq k else ix G (B (qs.take k), dq)
theorem nf_spec (G : List Lab) (B : List Nat → Nat) (qs dq : List Nat) : ∀ k, (nf G B qs dq k = 0 ∧ ∀ j, j < k → ix G (B (qs.take j), dq) = 0) ∨ ∃ j, j < k ∧ ix G (B (qs.take j), dq) ≠ 0 ∧ nf G B qs dq k = ix G (B (qs.take j), dq) ∧ ∀ j', j < j' → j' < k → ix G (B (qs.take j'), dq) = 0
  | 0 => .inl ⟨rfl, fun j hj => by omega⟩
  | k + 1 => by
    by_cases e : ix G (B (qs.take k), dq) = 0
    · have e1 : nf G B qs dq (k + 1) = nf G B qs dq k := if_pos e
      rw [e1]
      rcases nf_spec G B qs dq k with ⟨a, b⟩ | ⟨j, a, b, c, d⟩
      · refine .inl ⟨a, fun j hj => ?_⟩
        by_cases ej : j = k
        · rw [ej]; exact e
        · exact b j (by omega)
      · refine .inr ⟨j, by omega, b, c, fun j' h1 h2 => ?_⟩
        by_cases ej : j' = k
        · rw [ej]; exact e
        · exact d j' h1 (by omega)
    · exact .inr ⟨k, by omega, e, if_neg e, fun j' h1 h2 => by omega⟩
theorem nf_skip {G : List Lab} {B : List Nat → Nat} {qs dq : List Nat} {j : Nat} : ∀ d : Nat, (∀ j', j ≤ j' → j' < j + d → ix G (B (qs.take j'), dq) = 0) → nf G B qs dq (j + d) = nf G B qs dq j
  | 0, _ => rfl
  | d + 1, h => by
    have e : nf G B qs dq (j + d + 1) = nf G B qs dq (j + d) := if_pos (h (j + d) (by omega) (by omega))
    rw [← Nat.add_assoc, e]
    exact nf_skip d fun j' h1 h2 => h j' h1 (by omega)
theorem nf_congr {G : List Lab} {B : List Nat → Nat} {qs qs' dq : List Nat} : ∀ {k : Nat}, (∀ j, j < k → qs.take j = qs'.take j) → nf G B qs dq k = nf G B qs' dq k
  | 0, _ => rfl
  | k + 1, h => by
    unfold nf
    rw [h k (by omega), nf_congr (k := k) fun j hj => h j (by omega)]
theorem nf_one {G : List Lab} {B : List Nat → Nat} {qs dq : List Nat} {k : Nat} (h : ix G (B (qs.take k), dq) ≠ 0) : nf G B qs dq (k + 1) = ix G (B (qs.take k), dq) := if_neg h
theorem nf_two {G : List Lab} {B : List Nat → Nat} {qs dq : List Nat} {k : Nat} (h : ix G (B (qs.take k), dq) = 0) : nf G B qs dq (k + 1) = nf G B qs dq k := if_pos h
theorem Gw.nf_pre {N : List Pn} {G : List Lab} (h : Gw N G) {B : List Nat → Nat} {qs dq : List Nat} {k : Nat} (t : Nat) (e : nf G B qs dq k = 0) : nf G B qs (dq ++ [t]) k = 0 := by
  have hz : ∀ j, j < k → ix G (B (qs.take j), dq) = 0 := by
    rcases nf_spec G B qs dq k with ⟨_, b⟩ | ⟨j, a, b, c, _⟩
    · exact b
    · rw [e] at c; exact absurd c.symm b
  have := nf_skip (G := G) (B := B) (qs := qs) (dq := dq ++ [t]) (j := 0) k fun j' _ h2 => h.ix_pre t (hz j' (by omega))
  rw [Nat.zero_add] at this
  exact this
theorem Gw.nf_lt {N : List Pn} {G : List Lab} (h : Gw N G) (B : List Nat → Nat) (qs dq : List Nat) (k : Nat) : nf G B qs dq k < N.length := by
  rcases nf_spec G B qs dq k with ⟨a, _⟩ | ⟨j, _, _, c, _⟩
  · rw [a, h.wf.len]; exact pn_lt h.z
  · rw [c]; exact h.ix_lt _
/-- What is known of the roots of destinations, by their sources. -/
structure Bk (G : List Lab) (B : List Nat → Nat) : Prop where
  inj : ∀ q q', B q = B q' → B q ≠ 0 → q = q'
  one : ∀ q, B q ≠ 1
  root : ∀ q, B q ≠ 0 → G[B q]? = some (B q, [])
  src : ∀ q, B q ≠ 0 → ix G (1, q) ≠ 0
/-- In the trie below r the edges E were laid anew, by f. -/
structure Upd (G : List Lab) (r : Nat) (E : List Nat → Prop) (f : List Nat → Nat) (N N' : List Pn) : Prop where
  len : N'.length = N.length
  c : ∀ i, (nd N' i).c = (nd N i).c
  new : ∀ (i : Nat) (q : List Nat) (t : Nat), G[i]? = some (r, q) → t < 2 → E (q ++ [t]) → (nd N' i).kid t = f (q ++ [t])
  old : ∀ (i r' : Nat) (q : List Nat) (t : Nat), G[i]? = some (r', q) → t < 2 → (r' ≠ r ∨ ¬ E (q ++ [t])) → (nd N' i).kid t = (nd N i).kid t
theorem Upd.trans {G : List Lab} {r : Nat} {E1 E2 E : List Nat → Prop} {f : List Nat → Nat} {N N1 N2 : List Pn} (h : Upd G r E1 f N N1) (g : Upd G r E2 f N1 N2) (hE : ∀ (i : Nat) (q : List Nat) (t : Nat), G[i]? = some (r, q) → t < 2 → (E (q ++ [t]) ↔ E1 (q ++ [t]) ∨ E2 (q ++ [t]))) : Upd G r E f N N2 := by
  refine ⟨g.len.trans h.len, fun i => (g.c i).trans (h.c i), fun i q t hg ht he => ?_, fun i r' q t hg ht he => ?_⟩
  · by_cases e2 : E2 (q ++ [t])
    · exact g.new i q t hg ht e2
    · rw [g.old i r q t hg ht (.inr e2)]
      exact h.new i q t hg ht (((hE i q t hg ht).1 he).resolve_right e2)
  · by_cases hr : r' = r
    · subst hr
      have hn : ¬ E (q ++ [t]) := he.resolve_left fun e => e rfl
      rw [hE i q t hg ht] at hn
      rw [g.old i r' q t hg ht (.inr fun e => hn (.inr e)), h.old i r' q t hg ht (.inr fun e => hn (.inl e))]
    · rw [g.old i r' q t hg ht (.inl hr), h.old i r' q t hg ht (.inl hr)]
/-- One edge. -/
theorem Upd.set {N0 N : List Pn} {G : List Lab} (hw : Gw N0 G) {r i : Nat} {q : List Nat} {t : Nat} {f : List Nat → Nat} (hg : G[i]? = some (r, q)) (ht : t < 2) (hi : i < N.length) {E : List Nat → Prop} (hE : ∀ (j : Nat) (p : List Nat) (u : Nat), G[j]? = some (r, p) → u < 2 → (E (p ++ [u]) ↔ p = q ∧ u = t)) :
    Upd G r E f N (N.set i ((nd N i).put t (f (q ++ [t])))) := by
  have key : ∀ j, nd (N.set i ((nd N i).put t (f (q ++ [t])))) j = if j = i then (nd N i).put t (f (q ++ [t])) else nd N j := fun j => by
    unfold nd
    rw [List.getD_eq_getElem?_getD, List.getElem?_set]
    by_cases e : i = j
    · subst e; rw [if_pos rfl, if_pos hi, if_pos rfl]; rfl
    · rw [if_neg e, if_neg fun e' => e e'.symm, List.getD_eq_getElem?_getD]
  refine ⟨by simp, fun j => ?_, fun j p u hj hu he => ?_, fun j r' p u hj hu he => ?_⟩
  · rw [key]
    by_cases e : j = i
    · rw [if_pos e, put_c, e]
    · rw [if_neg e]
  · obtain ⟨rfl, rfl⟩ := (hE j p u hj hu).1 he
    have := hw.wf.nod _ _ _ hj hg
    subst this
    rw [key, if_pos rfl, kid_put]
  · rw [key]
    by_cases e : j = i
    · subst e
      rw [hg] at hj
      obtain ⟨rfl, rfl⟩ := Prod.mk.inj (Option.some.inj hj)
      rw [if_pos rfl]
      have hne : u ≠ t := fun e => by
        rcases he with h | h
        · exact h rfl
        · exact h ((hE j q u hg hu).2 ⟨rfl, e⟩)
      rw [kid_put' _ _ ht hu hne]
    · rw [if_neg e]
/-- What link asks at the destination q below r, the root of the source qs. -/
structure Lkp (G : List Lab) (B : List Nat → Nat) (qs : List Nat) (k r : Nat) (q : List Nat) (N : List Pn) : Prop where
  own : ∀ (i : Nat) (p : List Nat) (t : Nat), G[i]? = some (r, p) → q <+: p → t < 2 → (nd N i).kid t = ix G (r, p ++ [t])
  abv : ∀ (dq : List Nat) (t : Nat), t < 2 → (nd N (nf G B qs dq k)).kid t = nf G B qs (dq ++ [t]) k
  apart : ∀ j, j < k → B (qs.take j) ≠ r
  isr : r = B (qs.take k)
  ne : r ≠ 0
theorem nf_lab {N0 : List Pn} {G : List Lab} (hw : Gw N0 G) {B : List Nat → Nat} {qs dq : List Nat} {k r : Nat} (hap : ∀ j, j < k → B (qs.take j) ≠ r) (hr : r ≠ 0) : ∃ r' p, G[nf G B qs dq k]? = some (r', p) ∧ r' ≠ r := by
  rcases nf_spec G B qs dq k with ⟨a, _⟩ | ⟨j, h1, b, c, _⟩
  · exact ⟨0, [], by rw [a]; exact hw.z, fun e => hr e.symm⟩
  · exact ⟨_, _, by rw [c]; exact ix_at b, hap j h1⟩
theorem Lkp.upd {N0 : List Pn} {G : List Lab} (hw : Gw N0 G) {B : List Nat → Nat} {qs : List Nat} {k r : Nat} {q q' : List Nat} {N N' : List Pn} {E : List Nat → Prop} {f : List Nat → Nat} (h : Lkp G B qs k r q N) (hq : q <+: q') (u : Upd G r E f N N') (hE : ∀ p t, q' <+: p → ¬ E (p ++ [t])) : Lkp G B qs k r q' N' := by
  refine ⟨fun i p t hg hp ht => ?_, fun dq t ht => ?_, h.apart, h.isr, h.ne⟩
  · rw [u.old i r p t hg ht (.inr (hE p t hp))]
    exact h.own i p t hg (hq.trans hp) ht
  · obtain ⟨r', p, hl, hne⟩ := nf_lab (dq := dq) hw h.apart h.ne
    rw [u.old _ r' p t hl ht (.inl hne)]
    exact h.abv dq t ht
theorem Lkp.sub {N0 : List Pn} {G : List Lab} (hw : Gw N0 G) {B : List Nat → Nat} {qs : List Nat} {k r : Nat} {q q' : List Nat} {N : List Pn} (h : Lkp G B qs k r q N) (hq : q <+: q') : Lkp G B qs k r q' N :=
  ⟨fun i p t hg hp ht => h.own i p t hg (hq.trans hp) ht, h.abv, h.apart, h.isr, h.ne⟩
theorem pre_snoc {q p : List Nat} {t u : Nat} : (q ++ [t]) <+: (p ++ [u]) ↔ (q ++ [t]) <+: p ∨ (p = q ∧ u = t) := by
  constructor
  · intro h
    rcases List.prefix_concat_iff.1 h with e | e
    · have := List.append_inj' e rfl
      exact .inr ⟨this.1.symm, (List.cons.inj this.2).1.symm⟩
    · exact .inl e
  · rintro (h | ⟨rfl, rfl⟩)
    · exact h.trans (List.prefix_append _ _)
    · exact List.prefix_refl _
/-- A bit's edge, where there is no kid. -/
theorem Lkp.none {N0 : List Pn} {G : List Lab} (hw : Gw N0 G) {B : List Nat → Nat} {qs : List Nat} {k r : Nat} {q : List Nat} {N : List Pn} (h : Lkp G B qs k r q N) {i t : Nat} (hg : G[i]? = some (r, q)) (hi : i < N.length) (ht : t < 2) (hk : ix G (r, q ++ [t]) = 0) :
    Upd G r (fun e => (q ++ [t]) <+: e) (fun e => nf G B qs e (k + 1)) N (N.set i ((nd N i).put t (nf G B qs (q ++ [t]) k))) := by
  have e : nf G B qs (q ++ [t]) (k + 1) = nf G B qs (q ++ [t]) k := nf_two (by rw [← h.isr]; exact hk)
  rw [← e]
  refine Upd.set hw (f := fun e => nf G B qs e (k + 1)) hg ht hi fun j p u hj hu => ?_
  rw [pre_snoc]
  constructor
  · rintro (e1 | e1)
    · exact absurd hj (hw.ix_none (hw.ix_under e1 hk) h.ne j)
    · exact e1
  · exact .inr
/-- A bit's edge, where there is one: below it all were laid. -/
theorem Lkp.more {N0 : List Pn} {G : List Lab} (hw : Gw N0 G) {B : List Nat → Nat} {qs : List Nat} {k r : Nat} {q : List Nat} {N N' : List Pn} (h : Lkp G B qs k r q N) {t : Nat} (ht : t < 2) (hk : ix G (r, q ++ [t]) ≠ 0)
    (u : Upd G r (fun e => (q ++ [t]) <+: e ∧ e ≠ q ++ [t]) (fun e => nf G B qs e (k + 1)) N N') : Upd G r (fun e => (q ++ [t]) <+: e) (fun e => nf G B qs e (k + 1)) N N' := by
  refine ⟨u.len, u.c, fun i p v hg hv he => ?_, fun i r' p v hg hv he => ?_⟩
  · by_cases e : p ++ [v] = q ++ [t]
    · have h1 := List.append_inj' e rfl
      obtain rfl := h1.1
      obtain rfl := (List.cons.inj h1.2).1
      rw [u.old i r p v hg hv (.inr fun e => e.2 rfl), h.own i p v hg (List.prefix_refl _) hv]
      have h2 := nf_one (G := G) (B := B) (qs := qs) (dq := p ++ [v]) (k := k) (by rw [← h.isr]; exact hk)
      rw [← h.isr] at h2
      exact h2.symm
    · exact u.new i p v hg hv ⟨he, e⟩
  · refine u.old i r' p v hg hv ?_
    rcases he with e | e
    · exact .inl e
    · exact .inr fun e' => e e'.1
/-- Both bits. -/
theorem Upd.both {N0 : List Pn} {G : List Lab} (hw : Gw N0 G) {r : Nat} {q : List Nat} {f : List Nat → Nat} {N N1 N2 : List Pn} (h : Upd G r (fun e => (q ++ [0]) <+: e) f N N1) (g : Upd G r (fun e => (q ++ [1]) <+: e) f N1 N2) : Upd G r (fun e => q <+: e ∧ e ≠ q) f N N2 := by
  refine h.trans g fun i p t hg ht => ?_
  constructor
  · rintro ⟨⟨u, hu⟩, hne⟩
    cases u with
    | nil => exact absurd (by rw [← hu, List.append_nil]) hne
    | cons b u =>
      have hb : b < 2 := by
        have hm : b ∈ p ++ [t] := by rw [← hu]; simp
        rcases List.mem_append.1 hm with h1 | h1
        · exact hw.bit i r p hg b h1
        · rw [List.mem_singleton.1 h1]; exact ht
      have e : (q ++ [b]) <+: (p ++ [t]) := ⟨u, by rw [← hu]; simp⟩
      rcases (show b = 0 ∨ b = 1 by omega) with rfl | rfl
      · exact .inl e
      · exact .inr e
  · rintro (⟨u, hu⟩ | ⟨u, hu⟩)
    · exact ⟨⟨0 :: u, by rw [← hu]; simp⟩, fun e => by have := congrArg List.length (hu.trans e); simp at this⟩
    · exact ⟨⟨1 :: u, by rw [← hu]; simp⟩, fun e => by have := congrArg List.length (hu.trans e); simp at this⟩
theorem pre_apart {q p : List Nat} (h : (q ++ [1]) <+: p) (t : Nat) : ¬ (q ++ [0]) <+: (p ++ [t]) := by
  rintro ⟨u, hu⟩
  obtain ⟨v, rfl⟩ := h
  simp at hu
/-- The sources in D have their switches. -/
structure Jst (N0 N : List Pn) (G : List Lab) (B : List Nat → Nat) (D : List Nat → Prop) : Prop where
  len : N.length = N0.length
  c : ∀ i, (nd N i).c = (nd N0 i).c
  don : ∀ q, D q → B q ≠ 0 → ∀ (i : Nat) (dq : List Nat) (t : Nat), G[i]? = some (B q, dq) → t < 2 → (nd N i).kid t = nf G B q (dq ++ [t]) (q.length + 1)
  old : ∀ (i r : Nat) (dq : List Nat) (t : Nat), G[i]? = some (r, dq) → t < 2 → (∀ q, D q → B q = r → r = 0) → (nd N i).kid t = (nd N0 i).kid t
theorem Jst.zero (N : List Pn) (G : List Lab) (B : List Nat → Nat) : Jst N N G B (fun _ => False) := ⟨rfl, fun _ => rfl, fun _ h => h.elim, fun _ _ _ _ _ _ _ => rfl⟩
theorem Jst.weak {N0 N : List Pn} {G : List Lab} {B : List Nat → Nat} {D D' : List Nat → Prop} (h : Jst N0 N G B D) (h1 : ∀ q, D' q → D q ∨ B q = 0) (h2 : ∀ q, D q → D' q) : Jst N0 N G B D' :=
  ⟨h.len, h.c, fun q hq hb => h.don q ((h1 q hq).resolve_right hb) hb, fun i r dq t hg ht hd => h.old i r dq t hg ht fun q hq e => hd q (h2 q hq) e⟩
/-- Switches of the sources above are laid: the nodes that nf tells lead on to those that nf tells. -/
theorem Jst.abv {N0 N : List Pn} {G : List Lab} {B : List Nat → Nat} {D : List Nat → Prop} (h : Jst N0 N G B D) (hw : Gw N0 G) {qs : List Nat} {k : Nat} (hl : ∀ j, j < k → (qs.take j).length = j) (hD : ∀ j, j < k → D (qs.take j)) (dq : List Nat) {t : Nat} (ht : t < 2) : (nd N (nf G B qs dq k)).kid t = nf G B qs (dq ++ [t]) k := by
  rcases nf_spec G B qs dq k with ⟨a, _⟩ | ⟨j, h1, b, c, d⟩
  · rw [a, hw.nf_pre t a, h.old 0 0 [] t hw.z ht (fun _ _ _ => rfl), hw.nd0 ht]
  · have hb : B (qs.take j) ≠ 0 := fun e => b (by rw [e]; exact hw.ix_zero _)
    rw [c, h.don _ (hD j h1) hb _ dq t (ix_at b) ht, hl j h1]
    have e1 := nf_congr (G := G) (B := B) (qs := qs.take j) (qs' := qs) (dq := dq ++ [t]) (k := j + 1) fun i hi => by rw [List.take_take, Nat.min_eq_left (by omega)]
    have e2 := nf_skip (G := G) (B := B) (qs := qs) (dq := dq ++ [t]) (j := j + 1) (k - (j + 1)) fun j' h3 h4 => hw.ix_pre t (d j' (by omega) (by omega))
    rw [show j + 1 + (k - (j + 1)) = k by omega] at e2
    rw [e1, e2]
theorem take_len {q : List Nat} {j : Nat} (h : j ≤ q.length) : (q.take j).length = j := by rw [List.length_take]; omega
/-- What link asks of a source. -/
theorem Jst.lkp {N0 N : List Pn} {G : List Lab} {B : List Nat → Nat} {D : List Nat → Prop} (h : Jst N0 N G B D) (hw : Gw N0 G) (hB : Bk G B) {q : List Nat} (hD : ∀ j, j < q.length → D (q.take j)) (hn : ¬ D q) (hb : B q ≠ 0) : Lkp G B q q.length (B q) [] N := by
  refine ⟨fun i p t hg _ ht => ?_, fun dq t ht => h.abv hw (fun j hj => take_len (by omega)) hD dq ht, fun j hj e => ?_, by rw [List.take_length], hb⟩
  · rw [h.old i _ p t hg ht fun q' hq' e => absurd (by rw [← hB.inj q' q e (by rw [e]; exact hb)]; exact hq') hn]
    have h1 := hw.kid (B q) p ht
    rw [hw.ix_of hg] at h1
    exact h1
  · have := hB.inj _ _ e (by rw [e]; exact hb)
    have := congrArg List.length this
    rw [take_len (by omega)] at this
    omega
/-- The source's own trie is laid. -/
theorem Jst.one {N0 N N' : List Pn} {G : List Lab} {B : List Nat → Nat} {D : List Nat → Prop} (h : Jst N0 N G B D) (hB : Bk G B) {q : List Nat} (hn : ¬ D q) (hb : B q ≠ 0) (u : Upd G (B q) (fun e => ([] : List Nat) <+: e ∧ e ≠ []) (fun e => nf G B q e (q.length + 1)) N N') : Jst N0 N' G B (fun p => D p ∨ p = q) := by
  refine ⟨u.len.trans h.len, fun i => (u.c i).trans (h.c i), ?_, fun i r dq t hg ht hd => ?_⟩
  · rintro p (hp | rfl) hpb i dq t hg ht
    · rw [u.old i _ dq t hg ht (.inl fun e => hn (by rw [← hB.inj p q e hpb]; exact hp))]
      exact h.don p hp hpb i dq t hg ht
    · exact u.new i dq t hg ht ⟨List.nil_prefix, by simp⟩
  · rw [u.old i r dq t hg ht (.inl fun e => hb (by rw [← e]; exact hd q (.inr rfl) e.symm))]
    exact h.old i r dq t hg ht fun p hp e => hd p (.inl hp) e
theorem Jst.none {N0 N : List Pn} {G : List Lab} {B : List Nat → Nat} {D : List Nat → Prop} (h : Jst N0 N G B D) {q : List Nat} (hb : B q = 0) : Jst N0 N G B (fun p => D p ∨ p = q) :=
  h.weak (fun p hp => hp.imp id fun e => by rw [e]; exact hb) fun _ => .inl
/-- No node at a source: no sources below. -/
theorem Jst.nowhere {N0 N : List Pn} {G : List Lab} {B : List Nat → Nat} {D : List Nat → Prop} (h : Jst N0 N G B D) (hw : Gw N0 G) (hB : Bk G B) {q : List Nat} (hq : ix G (1, q) = 0) : Jst N0 N G B (fun p => D p ∨ q <+: p) :=
  h.weak (fun p hp => hp.imp id fun e => by
    apply Classical.byContradiction
    intro hb
    exact hB.src p hb (hw.ix_under e hq)) fun _ => .inl
/-- Both kids of a source are done. -/
theorem Jst.both {N0 N : List Pn} {G : List Lab} {B : List Nat → Nat} {D : List Nat → Prop} {q : List Nat} (hw : Gw N0 G) (hB : Bk G B) (h : Jst N0 N G B (fun p => ((D p ∨ p = q) ∨ (q ++ [0]) <+: p) ∨ (q ++ [1]) <+: p)) : Jst N0 N G B (fun p => D p ∨ q <+: p) := by
  refine h.weak (fun p hp => ?_) fun p hp => ?_
  · rcases hp with hp | ⟨u, hu⟩
    · exact .inl (.inl (.inl (.inl hp)))
    · cases u with
      | nil => exact .inl (.inl (.inl (.inr (by rw [← hu, List.append_nil]))))
      | cons b u =>
        by_cases hb : B p = 0
        · exact .inr hb
        · have h1 := hw.bit _ 1 p (ix_at (hB.src p hb)) b (by rw [← hu]; simp)
          have e : (q ++ [b]) <+: p := ⟨u, by rw [← hu]; simp⟩
          rcases (show b = 0 ∨ b = 1 by omega) with rfl | rfl
          · exact .inl (.inl (.inr e))
          · exact .inl (.inr e)
  · rcases hp with ((hp | rfl) | ⟨u, hu⟩) | ⟨u, hu⟩
    · exact .inl hp
    · exact .inr (List.prefix_refl _)
    · exact .inr ⟨0 :: u, by rw [← hu]; simp⟩
    · exact .inr ⟨1 :: u, by rw [← hu]; simp⟩
/-- The sources' own trie stays as it was. -/
theorem Jst.srcs {N0 N : List Pn} {G : List Lab} {B : List Nat → Nat} {D : List Nat → Prop} (h : Jst N0 N G B D) (hw : Gw N0 G) (hB : Bk G B) (q : List Nat) {t : Nat} (ht : t < 2) : (nd N (ix G (1, q))).kid t = ix G (1, q ++ [t]) := by
  by_cases e : ix G (1, q) = 0
  · rw [e, h.old 0 0 [] t hw.z ht (fun _ _ _ => rfl), hw.nd0 ht, hw.ix_pre t e]
  · rw [h.old _ 1 q t (ix_at e) ht (fun p _ e' => absurd e' (hB.one p)), hw.kid _ _ ht]
/-- above, handed on. -/
theorem nf_below {N0 : List Pn} {G : List Lab} (hw : Gw N0 G) {B : List Nat → Nat} (hB : Bk G B) (q : List Nat) (t : Nat) : nf G B (q ++ [t]) [] (q.length + 1) = if B q = 0 then nf G B q [] q.length else B q := by
  have e := nf_congr (G := G) (B := B) (qs := q ++ [t]) (qs' := q) (dq := []) (k := q.length + 1) fun j hj => by rw [List.take_append_of_le_length (by omega)]
  rw [e]
  by_cases h : B q = 0
  · rw [if_pos h, nf_two (by rw [List.take_length, h]; exact hw.ix_zero _)]
  · rw [if_neg h]
    have h2 : ix G (B (q.take q.length), []) = B q := by rw [List.take_length]; exact hw.ix_of (hB.root q h)
    rw [nf_one (by rw [h2]; exact h), h2]
theorem nf_up (G : List Lab) (B : List Nat → Nat) (q dq : List Nat) (t : Nat) : nf G B (q ++ [t]) dq q.length = nf G B q dq q.length :=
  nf_congr fun j hj => by rw [List.take_append_of_le_length (by omega)]
/-- What bits.At tells. -/
def btv (a i : Nat) : Nat := if i < 32 then Pf.tb a i else 0
theorem btv_lt (a i : Nat) : btv a i < 2 := by unfold btv; split; exact Pf.tb_lt a i; decide
/-- The way from a node on along an address. -/
def wy (N : List Pn) (a : Nat) : Nat → Nat → Nat → List Nat
  | 0, _, _ => []
  | f + 1, at', k => if at' = 0 then [] else at' :: wy N a f ((nd N at').kid (btv a k)) (k + 1)
theorem wy_zero (N : List Pn) (a f k : Nat) : wy N a f 0 k = [] := by cases f <;> simp [wy]
theorem wy_step (N : List Pn) (a f k : Nat) {x : Nat} (h : x ≠ 0) : wy N a (f + 1) x k = x :: wy N a f ((nd N x).kid (btv a k)) (k + 1) := if_neg h
theorem wy_len (N : List Pn) (a : Nat) : ∀ f x k, (wy N a f x k).length ≤ f
  | 0, _, _ => by simp [wy]
  | f + 1, x, k => by
    unfold wy
    split
    · simp
    · rw [List.length_cons]; have := wy_len N a f ((nd N x).kid (btv a k)) (k + 1); omega
/-- A way that is told place by place. -/
structure Way (N : List Pn) (a : Nat) (g : Nat → Nat) : Prop where
  go : ∀ k, k < 33 → (nd N (g k)).kid (btv a k) = g (k + 1)
  stay : ∀ k, g k = 0 → g (k + 1) = 0
  last : g 33 = 0
  lt : ∀ k, g k < N.length
theorem Way.wy {N : List Pn} {a : Nat} {g : Nat → Nat} (h : Way N a g) : ∀ f k, k + f ≤ 33 → wy N a f (g k) k = ((List.range f).map fun j => g (k + j)).takeWhile (fun x => x != 0)
  | 0, k, _ => rfl
  | f + 1, k, hk => by
    rw [List.range_succ_eq_map]
    simp only [List.map_cons, List.map_map, Nat.add_zero]
    by_cases e : g k = 0
    · rw [e, wy_zero, List.takeWhile_cons, if_neg (by simp)]
    · rw [wy_step _ _ _ _ e, h.go k (by omega), Way.wy h f (k + 1) (by omega), List.takeWhile_cons, if_pos (by simpa using e)]
      congr 2
      refine List.map_congr_left fun j _ => ?_
      show g (k + 1 + j) = g (k + (j + 1))
      congr 1; omega
theorem Way.zeros {N : List Pn} {a : Nat} {g : Nat → Nat} (h : Way N a g) {k : Nat} (e : g k = 0) : ∀ d, g (k + d) = 0
  | 0 => e
  | d + 1 => h.stay _ (Way.zeros h e d)
/-- takeWhile is filter here. -/
theorem Way.all {N : List Pn} {a : Nat} {g : Nat → Nat} (h : Way N a g) : ∀ f k, ((List.range f).map fun j => g (k + j)).takeWhile (fun x => x != 0) = ((List.range f).map fun j => g (k + j)).filter (fun x => x != 0)
  | 0, _ => rfl
  | f + 1, k => by
    rw [List.range_succ_eq_map]
    simp only [List.map_cons, List.map_map, Nat.add_zero]
    have e0 : List.map ((fun j => g (k + j)) ∘ Nat.succ) (List.range f) = List.map (fun j => g (k + 1 + j)) (List.range f) := List.map_congr_left fun j _ => by
      show g (k + (j + 1)) = g (k + 1 + j)
      congr 1; omega
    rw [e0]
    by_cases e : g k = 0
    · rw [List.takeWhile_cons, if_neg (by simp [e]), List.filter_cons, if_neg (by simp [e])]
      symm
      rw [List.filter_eq_nil_iff]
      intro x hx
      obtain ⟨j, _, rfl⟩ := List.mem_map.1 hx
      have := h.zeros e (1 + j)
      rw [← Nat.add_assoc] at this
      simp [this]
    · rw [List.takeWhile_cons, if_pos (by simpa using e), List.filter_cons, if_pos (by simpa using e), Way.all h f (k + 1)]
/-- The last root of destinations on the way. -/
def blo (N : List Pn) (l : List Nat) : Nat := l.foldl (fun b i => if (nd N i).c = 0 then b else (nd N i).c) 0
theorem blo_snoc (N : List Pn) (l : List Nat) (i : Nat) : blo N (l ++ [i]) = if (nd N i).c = 0 then blo N l else (nd N i).c := by unfold blo; rw [List.foldl_append]; rfl
theorem blo_filter {N : List Pn} (h : (nd N 0).c = 0) (l : List Nat) : ∀ b, (l.filter (fun x => x != 0)).foldl (fun b i => if (nd N i).c = 0 then b else (nd N i).c) b = l.foldl (fun b i => if (nd N i).c = 0 then b else (nd N i).c) b := by
  induction l with
  | nil => intro b; rfl
  | cons x l ih =>
    intro b
    by_cases e : x = 0
    · subst e
      rw [List.filter_cons, if_neg (by simp), List.foldl_cons, if_pos h]; exact ih b
    · rw [List.filter_cons, if_pos (by simpa using e), List.foldl_cons, List.foldl_cons]; exact ih _
theorem pth_take (a : Nat) {n j : Nat} (h : j ≤ n) : (pth a n).take j = pth a j := by
  unfold pth
  rw [← List.map_take, List.take_range, Nat.min_eq_left h]
theorem way_src {N0 N : List Pn} {G : List Lab} {B : List Nat → Nat} (hw : Gw N0 G) (hB : Bk G B) (h : Jst N0 N G B (fun _ => True)) (a : Nat) : Way N a (fun k => if k < 33 then ix G (1, pth a k) else 0) := by
  refine ⟨fun k hk => ?_, fun k e => ?_, by simp, fun k => ?_⟩
  · rw [if_pos hk]
    by_cases h2 : k < 32
    · rw [if_pos (by omega), h.srcs hw hB _ (btv_lt a k), show btv a k = Pf.tb a k from if_pos h2, ← pth_succ]
    · rw [if_neg (by omega), h.srcs hw hB _ (btv_lt a k)]
      refine ix_no fun i hi => ?_
      have := hw.wf.short i _ _ hi
      rw [List.length_append, pth_len] at this
      simp at this; omega
  · by_cases h1 : k < 33
    · rw [if_pos h1] at e
      by_cases h2 : k + 1 < 33
      · rw [if_pos h2, pth_succ]; exact hw.ix_pre _ e
      · rw [if_neg h2]
    · rw [if_neg (by omega)]
  · rw [h.len]
    split
    · exact hw.ix_lt _
    · rw [hw.wf.len]; exact pn_lt hw.z
theorem way_dst {N0 N : List Pn} {G : List Lab} {B : List Nat → Nat} (hw : Gw N0 G) (h : Jst N0 N G B (fun _ => True)) (a d : Nat) : Way N d (fun k => if k < 33 then nf G B (pth a 32) (pth d k) 33 else 0) := by
  have hgo : ∀ (dq : List Nat) {t : Nat}, t < 2 → (nd N (nf G B (pth a 32) dq 33)).kid t = nf G B (pth a 32) (dq ++ [t]) 33 := fun dq t ht => h.abv hw (fun j hj => by rw [List.length_take, pth_len]; omega) (fun _ _ => trivial) dq ht
  refine ⟨fun k hk => ?_, fun k e => ?_, by simp, fun k => ?_⟩
  · rw [if_pos hk]
    by_cases h2 : k < 32
    · rw [if_pos (by omega), hgo _ (btv_lt d k), show btv d k = Pf.tb d k from if_pos h2, ← pth_succ]
    · rw [if_neg (by omega), hgo _ (btv_lt d k)]
      rcases nf_spec G B (pth a 32) (pth d k ++ [btv d k]) 33 with ⟨e, _⟩ | ⟨j, _, b, _, _⟩
      · exact e
      · have := hw.wf.short _ _ _ (ix_at b)
        rw [List.length_append, pth_len] at this
        simp at this; omega
  · by_cases h1 : k < 33
    · rw [if_pos h1] at e
      by_cases h2 : k + 1 < 33
      · rw [if_pos h2, pth_succ d k]; exact hw.nf_pre _ e
      · rw [if_neg h2]
    · rw [if_neg (by omega)]
  · rw [h.len]
    split
    · exact hw.nf_lt _ _ _ _
    · rw [hw.wf.len]; exact pn_lt hw.z
/-- Where the way of the sources leads. -/
theorem blo_way {N0 N : List Pn} {G : List Lab} {B : List Nat → Nat} (hw : Gw N0 G) (hB : Bk G B) (h : Jst N0 N G B (fun _ => True)) (a : Nat) (hc : ∀ q, B q = (nd N0 (ix G (1, q))).c) (h0 : (nd N0 0).c = 0) : blo N (wy N a 33 1 0) = nf G B (pth a 32) [] 33 := by
  have W := way_src hw hB h a
  have e1 : (if (0 : Nat) < 33 then ix G (1, pth a 0) else 0) = 1 := by rw [if_pos (by decide), pth_zero]; exact hw.ix_of hw.r1
  have e2 := W.wy 33 0 (by decide)
  rw [e1, W.all] at e2
  rw [e2]
  unfold blo
  rw [blo_filter (by rw [h.c]; exact h0)]
  have key : ∀ k, k ≤ 33 → (List.map (fun j => (fun k => if k < 33 then ix G (1, pth a k) else 0) (0 + j)) (List.range k)).foldl (fun b i => if (nd N i).c = 0 then b else (nd N i).c) 0 = nf G B (pth a 32) [] k := by
    intro k
    induction k with
    | zero => intro _; rfl
    | succ k ih =>
      intro hk
      rw [List.range_succ, List.map_append, List.foldl_append, ih (by omega)]
      simp only [List.map_cons, List.map_nil, List.foldl_cons, List.foldl_nil, Nat.zero_add]
      rw [if_pos (show k < 33 by omega), h.c, ← hc]
      have hb : B ((pth a 32).take k) = B (pth a k) := by rw [pth_take a (by omega)]
      by_cases e : B (pth a k) = 0
      · rw [if_pos e, nf_two (by rw [hb, e]; exact hw.ix_zero _)]
      · have h2 : ix G (B ((pth a 32).take k), []) = B (pth a k) := by rw [hb]; exact hw.ix_of (hB.root _ e)
        rw [if_neg e, nf_one (by rw [h2]; exact e), h2]
  exact key 33 (Nat.le_refl _)
end Go.Proofs.YtgidohnikggjfaaGreat
