/-
  The mathematics of prune's tries: nodes in one list, each known by the root below which it stands and the bits that lead to it.
-/
import Derived.Test.YtgidohnikggjfaaGreatPxPlain
import Derived.Test.YtgidohnikggjfaaGreatNsPm
namespace Go.Proofs.YtgidohnikggjfaaGreat
set_option linter.unusedVariables false
set_option linter.unusedSimpArgs false

/-- The first n bits of a word. -/
def pth (a n : Nat) : List Nat := (List.range n).map (Pf.tb a)
theorem pth_len (a n : Nat) : (pth a n).length = n := by simp [pth]
theorem pth_succ (a n : Nat) : pth a (n + 1) = pth a n ++ [Pf.tb a n] := by simp [pth, List.range_succ]
theorem pth_zero (a : Nat) : pth a 0 = [] := rfl
theorem pth_ct {a b : Nat} (ha : a < 4294967296) (hb : b < 4294967296) : ∀ {n : Nat}, n ≤ 32 → (pth a n = pth b n ↔ Pf.ct a n = Pf.ct b n)
  | 0, _ => by simp [pth_zero, Pf.ct_zero, ha, hb]
  | n + 1, h => by
    have ih := pth_ct ha hb (n := n) (by omega)
    rw [pth_succ, pth_succ, Pf.ct_step a n (by omega), Pf.ct_step b n (by omega)]
    have hp := Pf.bk_pos (n + 1)
    constructor
    · intro e
      have := List.append_inj e (by simp [pth_len])
      rw [ih.1 this.1, (List.cons.inj this.2).1]
    · intro e
      have h1 : Pf.ct a n = Pf.ct b n := by
        have e1 := Pf.ct_step a n (by omega)
        have e2 := Pf.ct_step b n (by omega)
        have := Pf.ct_mono_eq a b n (n + 1) (by omega) (by rw [e1, e2]; exact e)
        exact this
      have h2 : Pf.tb a n = Pf.tb b n := by
        rw [h1] at e
        have : Pf.bk (n + 1) * Pf.tb a n = Pf.bk (n + 1) * Pf.tb b n := by omega
        exact Nat.eq_of_mul_eq_mul_left hp this
      rw [ih.2 h1, h2]
/-- A prefix's bits. -/
def pp (x : Nat × Nat) : List Nat := pth x.1 x.2
def Okx (x : Nat × Nat) : Prop := x.1 < 4294967296 ∧ x.2 ≤ 32 ∧ Pf.ct x.1 x.2 = x.1
theorem pp_inj {x y : Nat × Nat} (hx : Okx x) (hy : Okx y) (h : pp x = pp y) : x = y := by
  have h2 : x.2 = y.2 := by have := congrArg List.length h; simpa [pp, pth_len] using this
  have h1 : Pf.ct x.1 x.2 = Pf.ct y.1 x.2 := (pth_ct hx.1 hy.1 hx.2.1).1 (by unfold pp at h; rw [← h2] at h; exact h)
  have h3 := hx.2.2
  have h4 := hy.2.2
  rw [h2] at h1 h3
  exact Prod.ext (by rw [← h3, h1, h4]) h2

/-- A node: its two kids, and what it bears. -/
structure Pn where
  a : Nat
  b : Nat
  c : Nat
def Pn.kid (x : Pn) (t : Nat) : Nat := if t = 0 then x.a else x.b
def Pn.put (x : Pn) (t k : Nat) : Pn := if t = 0 then ⟨k, x.b, x.c⟩ else ⟨x.a, k, x.c⟩
def Pn.bear (x : Pn) (v : Nat) : Pn := ⟨x.a, x.b, v⟩
def pz : Pn := ⟨0, 0, 0⟩
theorem kid_put (x : Pn) (t k : Nat) : (x.put t k).kid t = k := by unfold Pn.put Pn.kid; split <;> rfl
theorem kid_put' (x : Pn) {t u : Nat} (k : Nat) (ht : t < 2) (hu : u < 2) (h : u ≠ t) : (x.put t k).kid u = x.kid u := by
  unfold Pn.put Pn.kid
  by_cases h0 : t = 0
  · rw [if_pos h0, if_neg (by omega), if_neg (by omega)]
  · rw [if_neg h0, if_pos (by omega), if_pos (by omega)]
theorem put_c (x : Pn) (t k : Nat) : (x.put t k).c = x.c := by unfold Pn.put; split <;> rfl
theorem kid_pz (t : Nat) : pz.kid t = 0 := by unfold Pn.kid; split <;> rfl
theorem kid_bear (x : Pn) (v t : Nat) : (x.bear v).kid t = x.kid t := rfl

abbrev Lab := Nat × List Nat
structure Wf (N : List Pn) (G : List Lab) : Prop where
  len : N.length = G.length
  nod : ∀ (i j : Nat) (x : Lab), G[i]? = some x → G[j]? = some x → i = j
  up : ∀ (i : Nat) (x : Pn) (r : Nat) (q : List Nat) (t : Nat), N[i]? = some x → G[i]? = some (r, q) → t < 2 → x.kid t ≠ 0 → G[x.kid t]? = some (r, q ++ [t])
  no : ∀ (i : Nat) (x : Pn) (r : Nat) (q : List Nat) (t : Nat), N[i]? = some x → G[i]? = some (r, q) → t < 2 → x.kid t = 0 → ∀ j : Nat, G[j]? ≠ some (r, q ++ [t])
  short : ∀ (i r : Nat) (q : List Nat), G[i]? = some (r, q) → q.length ≤ 32
  root : ∀ (i r : Nat) (q : List Nat), G[i]? = some (r, q) → r < N.length
  pre : ∀ (i r : Nat) (q : List Nat) (t : Nat), G[i]? = some (r, q ++ [t]) → ∃ j : Nat, G[j]? = some (r, q)
theorem Wf.nil : Wf [] [] := ⟨rfl, by simp, by simp, by simp, by simp, by simp, by simp⟩
theorem pn_lt {α : Type} {l : List α} {i : Nat} {x : α} (h : l[i]? = some x) : i < l.length := (List.getElem?_eq_some_iff.1 h).1
theorem pn_app {α : Type} {l : List α} {i : Nat} {x y : α} : (l ++ [y])[i]? = some x ↔ (l[i]? = some x ∨ (i = l.length ∧ x = y)) := by
  by_cases h : i < l.length
  · rw [List.getElem?_append_left h]
    constructor
    · exact .inl
    · rintro (e | ⟨e, _⟩)
      · exact e
      · omega
  · by_cases h2 : i = l.length
    · subst h2
      simp
      constructor <;> (intro e; exact e.symm)
    · rw [List.getElem?_eq_none (by simp; omega), List.getElem?_eq_none (by omega)]
      simp; omega
theorem Wf.node {N : List Pn} {G : List Lab} (h : Wf N G) {i : Nat} {g : Lab} (e : G[i]? = some g) : ∃ x, N[i]? = some x := ⟨N[i]'(by rw [h.len]; exact pn_lt e), List.getElem?_eq_getElem _⟩
theorem Wf.lab {N : List Pn} {G : List Lab} (h : Wf N G) {i : Nat} {g : Pn} (e : N[i]? = some g) : ∃ x, G[i]? = some x := ⟨G[i]'(by rw [← h.len]; exact pn_lt e), List.getElem?_eq_getElem _⟩
/-- A new root. -/
theorem Wf.grow {N : List Pn} {G : List Lab} (h : Wf N G) : Wf (N ++ [pz]) (G ++ [(N.length, [])]) := by
  refine ⟨by simp [h.len], ?_, ?_, ?_, ?_, ?_, ?_⟩
  · intro i j x h1 h2
    rcases pn_app.1 h1 with e1 | ⟨e1, e1'⟩ <;> rcases pn_app.1 h2 with e2 | ⟨e2, e2'⟩
    · exact h.nod i j x e1 e2
    · subst e2'; have := h.root i _ _ e1; omega
    · subst e1'; have := h.root j _ _ e2; omega
    · omega
  · intro i x r q t h1 h2 ht hk
    rcases pn_app.1 h1 with e1 | ⟨e1, e1'⟩
    · rcases pn_app.1 h2 with e2 | ⟨e2, e2'⟩
      · exact pn_app.2 (.inl (h.up i x r q t e1 e2 ht hk))
      · have := pn_lt e1; have := h.len; omega
    · subst e1'; exact absurd (kid_pz t) hk
  · intro i x r q t h1 h2 ht hk j hj
    rcases pn_app.1 hj with e | ⟨_, e⟩
    · rcases pn_app.1 h1 with e1 | ⟨e1, e1'⟩
      · rcases pn_app.1 h2 with e2 | ⟨e2, e2'⟩
        · exact h.no i x r q t e1 e2 ht hk j e
        · have := pn_lt e1; have := h.len; omega
      · rcases pn_app.1 h2 with e2 | ⟨e2, e2'⟩
        · have := pn_lt e2; have := h.len; omega
        · have := h.root j _ _ e; have := congrArg Prod.fst e2'; simp at this; omega
    · have := congrArg (fun z : Lab => z.2.length) e; simp at this
  · intro i r q h1
    rcases pn_app.1 h1 with e1 | ⟨_, e1⟩
    · exact h.short i r q e1
    · rw [show q = [] from congrArg Prod.snd e1]; simp
  · intro i r q h1
    rw [List.length_append]
    rcases pn_app.1 h1 with e1 | ⟨_, e1⟩
    · have := h.root i r q e1; simp; omega
    · rw [show r = N.length from congrArg Prod.fst e1]; simp
  · intro i r q t h1
    rcases pn_app.1 h1 with e1 | ⟨_, e1⟩
    · obtain ⟨j, hj⟩ := h.pre i r q t e1
      exact ⟨j, pn_app.2 (.inl hj)⟩
    · have := congrArg (fun z : Lab => z.2.length) e1; simp at this
theorem pn_set {α : Type} {l : List α} {i j : Nat} {x y : α} (h : i < l.length) : (l.set i y)[j]? = some x ↔ (j = i ∧ x = y) ∨ (j ≠ i ∧ l[j]? = some x) := by
  rw [List.getElem?_set]
  by_cases e : i = j
  · subst e; rw [if_pos rfl, if_pos h]; simp; constructor <;> (intro e; exact e.symm)
  · rw [if_neg e]; constructor
    · intro hh; exact .inr ⟨fun e' => e e'.symm, hh⟩
    · rintro (⟨e', _⟩ | ⟨_, hh⟩)
      · exact absurd e'.symm e
      · exact hh
/-- A new kid. -/
theorem Wf.kid {N : List Pn} {G : List Lab} (h : Wf N G) {i : Nat} {x : Pn} {r : Nat} {q : List Nat} {t : Nat} (hx : N[i]? = some x) (hg : G[i]? = some (r, q)) (ht : t < 2) (hk : x.kid t = 0) (hq : q.length < 32) :
    Wf ((N ++ [pz]).set i (x.put t N.length)) (G ++ [(r, q ++ [t])]) := by
  have hi : i < (N ++ [pz]).length := by have := pn_lt hx; simp; omega
  have hil := pn_lt hx
  have hno := h.no i x r q t hx hg ht hk
  have hlen := h.len
  refine ⟨by simp [h.len], ?_, ?_, ?_, ?_, ?_, ?_⟩
  · intro i1 j x1 h1 h2
    rcases pn_app.1 h1 with e1 | ⟨e1, e1'⟩ <;> rcases pn_app.1 h2 with e2 | ⟨e2, e2'⟩
    · exact h.nod i1 j x1 e1 e2
    · subst e2'; exact absurd e1 (hno i1)
    · subst e1'; exact absurd e2 (hno j)
    · omega
  · intro i1 x1 r1 q1 t1 h1 h2 ht1 hk1
    rcases (pn_set hi).1 h1 with ⟨e1, e1'⟩ | ⟨e1, e1'⟩
    · subst e1 e1'
      have h2' : (r1, q1) = (r, q) := by
        rcases pn_app.1 h2 with e2 | ⟨e2, e2'⟩
        · rw [hg] at e2; exact (Option.some.inj e2).symm
        · omega
      obtain ⟨rfl, rfl⟩ := Prod.mk.inj h2'
      by_cases ett : t1 = t
      · subst ett; rw [kid_put]; exact pn_app.2 (.inr ⟨hlen, rfl⟩)
      · rw [kid_put' x _ ht ht1 ett] at hk1 ⊢
        exact pn_app.2 (.inl (h.up _ x r1 q1 t1 hx hg ht1 hk1))
    · rcases pn_app.1 e1' with e3 | ⟨e3, e3'⟩
      · rcases pn_app.1 h2 with e2 | ⟨e2, e2'⟩
        · exact pn_app.2 (.inl (h.up i1 x1 r1 q1 t1 e3 e2 ht1 hk1))
        · have := pn_lt e3; omega
      · subst e3'; exact absurd (kid_pz t1) hk1
  · intro i1 x1 r1 q1 t1 h1 h2 ht1 hk1 j hj
    rcases (pn_set hi).1 h1 with ⟨e1, e1'⟩ | ⟨e1, e1'⟩
    · subst e1 e1'
      have h2' : (r1, q1) = (r, q) := by
        rcases pn_app.1 h2 with e2 | ⟨e2, e2'⟩
        · rw [hg] at e2; exact (Option.some.inj e2).symm
        · omega
      obtain ⟨rfl, rfl⟩ := Prod.mk.inj h2'
      by_cases ett : t1 = t
      · subst ett; rw [kid_put] at hk1; omega
      · rw [kid_put' x _ ht ht1 ett] at hk1
        rcases pn_app.1 hj with e | ⟨_, e⟩
        · exact h.no _ x r1 q1 t1 hx hg ht1 hk1 j e
        · have := congrArg Prod.snd e
          have := (List.append_inj this rfl).2
          exact ett (List.cons.inj this).1
    · rcases pn_app.1 e1' with e3 | ⟨e3, e3'⟩
      · rcases pn_app.1 h2 with e2 | ⟨e2, e2'⟩
        · rcases pn_app.1 hj with e | ⟨_, e⟩
          · exact h.no i1 x1 r1 q1 t1 e3 e2 ht1 hk1 j e
          · have h5 := List.append_inj' (congrArg Prod.snd e) rfl
            have h6 : r1 = r := congrArg Prod.fst e
            have h7 : q1 = q := h5.1
            subst h6 h7
            exact e1 (h.nod i1 i _ e2 hg)
        · have := pn_lt e3; omega
      · rcases pn_app.1 h2 with e2 | ⟨e2, e2'⟩
        · have := pn_lt e2; omega
        · obtain ⟨rfl, rfl⟩ := Prod.mk.inj e2'
          rcases pn_app.1 hj with e | ⟨_, e⟩
          · obtain ⟨j', hj'⟩ := h.pre j _ _ _ e
            exact hno j' hj'
          · have := congrArg (fun z : Lab => z.2.length) e; simp at this
  · intro i1 r1 q1 h1
    rcases pn_app.1 h1 with e1 | ⟨_, e1⟩
    · exact h.short i1 r1 q1 e1
    · rw [show q1 = q ++ [t] from congrArg Prod.snd e1]; simp; omega
  · intro i1 r1 q1 h1
    rw [List.length_set, List.length_append]
    rcases pn_app.1 h1 with e1 | ⟨_, e1⟩
    · have := h.root i1 r1 q1 e1; simp; omega
    · rw [show r1 = r from congrArg Prod.fst e1]; have := h.root i r q hg; simp; omega
  · intro i1 r1 q1 t1 h1
    rcases pn_app.1 h1 with e1 | ⟨_, e1⟩
    · obtain ⟨j, hj⟩ := h.pre i1 r1 q1 t1 e1
      exact ⟨j, pn_app.2 (.inl hj)⟩
    · obtain ⟨rfl, e2⟩ := Prod.mk.inj e1
      have := (List.append_inj' e2 rfl).1
      exact ⟨i, pn_app.2 (.inl (by rw [this]; exact hg))⟩
theorem Wf.bear {N : List Pn} {G : List Lab} (h : Wf N G) {i : Nat} {x : Pn} (hx : N[i]? = some x) (v : Nat) : Wf (N.set i (x.bear v)) G := by
  have hi := pn_lt hx
  have key : ∀ (j : Nat) (y : Pn), (N.set i (x.bear v))[j]? = some y → ∃ z, N[j]? = some z ∧ ∀ t, y.kid t = z.kid t := by
    intro j y hy
    rcases (pn_set hi).1 hy with ⟨e1, e2⟩ | ⟨e1, e2⟩
    · subst e1 e2; exact ⟨x, hx, fun t => rfl⟩
    · exact ⟨y, e2, fun t => rfl⟩
  refine ⟨by simp [h.len], h.nod, ?_, ?_, h.short, by simpa using h.root, h.pre⟩
  · intro j y r q t h1 h2 ht hk
    obtain ⟨z, hz, e⟩ := key j y h1
    rw [e] at hk ⊢
    exact h.up j z r q t hz h2 ht hk
  · intro j y r q t h1 h2 ht hk
    obtain ⟨z, hz, e⟩ := key j y h1
    rw [e] at hk
    exact h.no j z r q t hz h2 ht hk
/-- What the node bears that stands below r at q. -/
def Bs (N : List Pn) (G : List Lab) (r : Nat) (q : List Nat) (v : Nat) : Prop := ∃ (i : Nat) (x : Pn), G[i]? = some (r, q) ∧ N[i]? = some x ∧ x.c = v ∧ v ≠ 0
theorem Bs.uniq {N : List Pn} {G : List Lab} (h : Wf N G) {r : Nat} {q : List Nat} {v u : Nat} (h1 : Bs N G r q v) (h2 : Bs N G r q u) : v = u := by
  obtain ⟨i, x, a1, a2, a3, _⟩ := h1
  obtain ⟨j, y, b1, b2, b3, _⟩ := h2
  obtain rfl := h.nod i j _ a1 b1
  rw [a2] at b2
  rw [← a3, ← b3, Option.some.inj b2]
theorem Bs.at {N : List Pn} {G : List Lab} (h : Wf N G) {r : Nat} {q : List Nat} {i : Nat} {x : Pn} (hg : G[i]? = some (r, q)) (hx : N[i]? = some x) {v : Nat} : Bs N G r q v ↔ x.c = v ∧ v ≠ 0 := by
  constructor
  · rintro ⟨j, y, b1, b2, b3, b4⟩
    obtain rfl := h.nod i j _ hg b1
    rw [hx] at b2; rw [Option.some.inj b2]; exact ⟨b3, b4⟩
  · rintro ⟨e1, e2⟩; exact ⟨i, x, hg, hx, e1, e2⟩
theorem Bs.grow {N : List Pn} {G : List Lab} (hl : N.length = G.length) (g : Lab) {r : Nat} {q : List Nat} {v : Nat} : Bs (N ++ [pz]) (G ++ [g]) r q v ↔ Bs N G r q v := by
  constructor
  · rintro ⟨i, x, a1, a2, a3, a4⟩
    rcases pn_app.1 a2 with e | ⟨e, e'⟩
    · rcases pn_app.1 a1 with f | ⟨f, f'⟩
      · exact ⟨i, x, f, e, a3, a4⟩
      · have := pn_lt e; omega
    · subst e'; exact absurd a3.symm a4
  · rintro ⟨i, x, a1, a2, a3, a4⟩
    exact ⟨i, x, pn_app.2 (.inl a1), pn_app.2 (.inl a2), a3, a4⟩
theorem Bs.put {N : List Pn} {G : List Lab} {i : Nat} {x : Pn} (hx : N[i]? = some x) (y : Pn) (hy : y.c = x.c) {r : Nat} {q : List Nat} {v : Nat} : Bs (N.set i y) G r q v ↔ Bs N G r q v := by
  have hi := pn_lt hx
  constructor
  · rintro ⟨j, z, a1, a2, a3, a4⟩
    rcases (pn_set hi).1 a2 with ⟨e1, e2⟩ | ⟨e1, e2⟩
    · subst e1 e2; exact ⟨j, x, a1, hx, by rw [← hy]; exact a3, a4⟩
    · exact ⟨j, z, a1, e2, a3, a4⟩
  · rintro ⟨j, z, a1, a2, a3, a4⟩
    by_cases e : j = i
    · subst e; rw [hx] at a2; obtain rfl := Option.some.inj a2
      exact ⟨j, y, a1, (pn_set hi).2 (.inl ⟨rfl, rfl⟩), by rw [hy]; exact a3, a4⟩
    · exact ⟨j, z, a1, (pn_set hi).2 (.inr ⟨e, a2⟩), a3, a4⟩
theorem Bs.bear {N : List Pn} {G : List Lab} (h : Wf N G) {i : Nat} {x : Pn} {r0 : Nat} {q0 : List Nat} (hx : N[i]? = some x) (hg : G[i]? = some (r0, q0)) (hc : x.c = 0) {u : Nat} (hu : u ≠ 0) {r : Nat} {q : List Nat} {v : Nat} :
    Bs (N.set i (x.bear u)) G r q v ↔ (r = r0 ∧ q = q0 ∧ v = u) ∨ Bs N G r q v := by
  have hi := pn_lt hx
  constructor
  · rintro ⟨j, z, a1, a2, a3, a4⟩
    rcases (pn_set hi).1 a2 with ⟨e1, e2⟩ | ⟨e1, e2⟩
    · subst e1 e2
      rw [hg] at a1
      obtain ⟨rfl, rfl⟩ := Prod.mk.inj (Option.some.inj a1)
      exact .inl ⟨rfl, rfl, a3.symm⟩
    · exact .inr ⟨j, z, a1, e2, a3, a4⟩
  · rintro (⟨rfl, rfl, rfl⟩ | ⟨j, z, a1, a2, a3, a4⟩)
    · exact ⟨i, _, hg, (pn_set hi).2 (.inl ⟨rfl, rfl⟩), rfl, hu⟩
    · by_cases e : j = i
      · subst e; rw [hx] at a2; obtain rfl := Option.some.inj a2
        exact absurd (a3.symm.trans hc) a4
      · exact ⟨j, z, a1, (pn_set hi).2 (.inr ⟨e, a2⟩), a3, a4⟩
/-- From N, G a way was gone below r along q, to the node t; what is missing was made. -/
structure Rch (N : List Pn) (G : List Lab) (r : Nat) (q : List Nat) (N' : List Pn) (G' : List Lab) (t : Nat) : Prop where
  wf : Wf N' G'
  ext : ∀ (i : Nat) (g : Lab), G[i]? = some g → G'[i]? = some g
  few : G.length ≤ G'.length ∧ G'.length ≤ G.length + q.length
  here : G'[t]? = some (r, q)
  bs : ∀ r' q' v, Bs N' G' r' q' v ↔ Bs N G r' q' v
theorem Rch.nil {N : List Pn} {G : List Lab} (h : Wf N G) {r t : Nat} (hr : G[t]? = some (r, [])) : Rch N G r [] N G t := ⟨h, fun _ _ e => e, ⟨Nat.le_refl _, Nat.le_add_right _ _⟩, hr, fun _ _ _ => Iff.rfl⟩
theorem Rch.make {N N1 : List Pn} {G G1 : List Lab} {r : Nat} {q : List Nat} {t u : Nat} {x : Pn} (h : Rch N G r q N1 G1 t) (hx : N1[t]? = some x) (hu : u < 2) (hk : x.kid u = 0) (hq : q.length < 32) :
    Rch N G r (q ++ [u]) ((N1 ++ [pz]).set t (x.put u N1.length)) (G1 ++ [(r, q ++ [u])]) N1.length := by
  refine ⟨h.wf.kid hx h.here hu hk hq, fun i g e => pn_app.2 (.inl (h.ext i g e)), ?_, pn_app.2 (.inr ⟨h.wf.len, rfl⟩), fun r' q' v => ?_⟩
  · have := h.few; simp only [List.length_append, List.length_cons, List.length_nil]; omega
  · rw [Bs.put (pn_app.2 (.inl hx)) _ (put_c x u _), Bs.grow h.wf.len, h.bs]
theorem Rch.go {N N1 : List Pn} {G G1 : List Lab} {r : Nat} {q : List Nat} {t u : Nat} {x : Pn} (h : Rch N G r q N1 G1 t) (hx : N1[t]? = some x) (hu : u < 2) (hk : x.kid u ≠ 0) :
    Rch N G r (q ++ [u]) N1 G1 (x.kid u) := by
  refine ⟨h.wf, h.ext, ?_, h.wf.up t x r q u hx h.here hu hk, h.bs⟩
  have := h.few; simp only [List.length_append, List.length_cons, List.length_nil]; omega
/-- How many places there are in the lists. -/
def pnTot (LS : List (List Nat)) : Nat := (LS.map List.length).sum
theorem pnTot_app (LS : List (List Nat)) (x : List Nat) : pnTot (LS ++ [x]) = pnTot LS + x.length := by simp [pnTot]
/-- Below the root r hang the prefixes D, each with its list. -/
def Hung (N : List Pn) (G : List Lab) (LS : List (List Nat)) (r : Nat) (D : List (Nat × Nat)) (A : Nat × Nat → List Nat) : Prop :=
  r ≠ 0 ∧ G[r]? = some (r, []) ∧ (∀ q v, Bs N G r q v → ∃ d ∈ D, q = pp d ∧ LS[v - 1]? = some (A d)) ∧ ∀ d ∈ D, ∃ v, Bs N G r (pp d) v
/-- While they are hung: j of them are. -/
structure Hng (N0 : List Pn) (G0 : List Lab) (L0 : List (List Nat)) (r : Nat) (D : List (Nat × Nat)) (A : Nat × Nat → List Nat) (j : Nat) (N : List Pn) (G : List Lab) (LS : List (List Nat)) : Prop where
  wf : Wf N G
  ext : ∀ (i : Nat) (g : Lab), G0[i]? = some g → G[i]? = some g
  root : G[r]? = some (r, [])
  old : ∀ r' q v, r' ≠ r → (Bs N G r' q v ↔ Bs N0 G0 r' q v)
  lst : ∀ (i : Nat) (g : List Nat), L0[i]? = some g → LS[i]? = some g
  sound : ∀ q v, Bs N G r q v → ∃ d ∈ D.take j, q = pp d ∧ LS[v - 1]? = some (A d)
  full : ∀ d ∈ D.take j, ∃ v, Bs N G r (pp d) v
  sum : pnTot LS = pnTot L0 + sumF (fun d => (A d).length) (uq (D.take j))
  few : G0.length ≤ G.length ∧ G.length ≤ G0.length + 1 + 32 * j
  lists : LS.length ≤ L0.length + j
theorem Hng.zero {N : List Pn} {G : List Lab} (h : Wf N G) (LS : List (List Nat)) (D : List (Nat × Nat)) (A : Nat × Nat → List Nat) : Hng N G LS N.length D A 0 (N ++ [pz]) (G ++ [(N.length, [])]) LS := by
  have hno : ∀ q v, ¬ Bs N G N.length q v := by
    rintro q v ⟨i, x, a1, _⟩
    have := h.root i _ _ a1; omega
  refine ⟨h.grow, fun i g e => pn_app.2 (.inl e), pn_app.2 (.inr ⟨h.len, rfl⟩), fun r' q v _ => Bs.grow h.len _, fun _ _ e => e, ?_, by simp, by simp [uq, sumF], by simp, by simp⟩
  intro q v hb
  exact absurd ((Bs.grow h.len _).1 hb) (hno q v)
theorem take_snocX {α : Type} {l : List α} {k : Nat} (h : k < l.length) : l.take (k + 1) = l.take k ++ [l[k]] := List.take_succ_eq_append_getElem h
theorem Hng.reach {N0 N N1 : List Pn} {G0 G G1 : List Lab} {L0 LS : List (List Nat)} {r j t : Nat} {D : List (Nat × Nat)} {A : Nat × Nat → List Nat} {q0 : List Nat} (h : Hng N0 G0 L0 r D A j N G LS) (R : Rch N G r q0 N1 G1 t) :
    Wf N1 G1 ∧ (∀ (i : Nat) (g : Lab), G0[i]? = some g → G1[i]? = some g) ∧ G1[r]? = some (r, []) ∧ (∀ r' q v, r' ≠ r → (Bs N1 G1 r' q v ↔ Bs N0 G0 r' q v)) ∧ (∀ q v, Bs N1 G1 r q v → ∃ d ∈ D.take j, q = pp d ∧ LS[v - 1]? = some (A d)) ∧ (∀ d ∈ D.take j, ∃ v, Bs N1 G1 r (pp d) v) :=
  ⟨R.wf, fun i g e => R.ext i g (h.ext i g e), R.ext _ _ h.root, fun r' q v hr => (R.bs r' q v).trans (h.old r' q v hr), fun q v hb => h.sound q v ((R.bs r q v).1 hb), fun d hd => by
    obtain ⟨v, hv⟩ := h.full d hd
    exact ⟨v, (R.bs _ _ _).2 hv⟩⟩
/-- A prefix that is there already. -/
theorem Hng.again {N0 N N1 : List Pn} {G0 G G1 : List Lab} {L0 LS : List (List Nat)} {r j t : Nat} {D : List (Nat × Nat)} {A : Nat × Nat → List Nat} (h : Hng N0 G0 L0 r D A j N G LS) (hj : j < D.length) (R : Rch N G r (pp D[j]) N1 G1 t)
    (hD : ∀ d ∈ D, Okx d) {x : Pn} (hx : N1[t]? = some x) (hc : x.c ≠ 0) : Hng N0 G0 L0 r D A (j + 1) N1 G1 LS := by
  obtain ⟨a1, a2, a3, a4, a5, a6⟩ := h.reach R
  have hb : Bs N1 G1 r (pp D[j]) x.c := (Bs.at a1 R.here hx).2 ⟨rfl, hc⟩
  have hin : D[j] ∈ D.take j := by
    obtain ⟨d, hd, e, _⟩ := a5 _ _ hb
    rw [pp_inj (hD _ (List.getElem_mem hj)) (hD d (List.mem_of_mem_take hd)) e]; exact hd
  refine ⟨a1, a2, a3, a4, h.lst, ?_, ?_, ?_, ?_, ?_⟩
  · intro q v hb'
    obtain ⟨d, hd, e⟩ := a5 q v hb'
    exact ⟨d, by rw [take_snocX hj]; exact List.mem_append_left _ hd, e⟩
  · intro d hd
    rw [take_snocX hj] at hd
    rcases List.mem_append.1 hd with hd | hd
    · exact a6 d hd
    · rw [List.mem_singleton.1 hd]; exact ⟨_, hb⟩
  · rw [take_snocX hj, uq_app_sum, if_pos hin]; exact h.sum
  · have h1 := h.few; have h2 := R.few
    have h3 := (hD _ (List.getElem_mem hj)).2.1
    have h4 : (pp D[j]).length = D[j].2 := pth_len _ _
    omega
  · have := h.lists; omega
/-- One that is new. -/
theorem Hng.more {N0 N N1 : List Pn} {G0 G G1 : List Lab} {L0 LS : List (List Nat)} {r j t : Nat} {D : List (Nat × Nat)} {A : Nat × Nat → List Nat} (h : Hng N0 G0 L0 r D A j N G LS) (hj : j < D.length) (R : Rch N G r (pp D[j]) N1 G1 t)
    (hD : ∀ d ∈ D, Okx d) {x : Pn} (hx : N1[t]? = some x) (hc : x.c = 0) : Hng N0 G0 L0 r D A (j + 1) (N1.set t (x.bear (LS.length + 1))) G1 (LS ++ [A D[j]]) := by
  obtain ⟨a1, a2, a3, a4, a5, a6⟩ := h.reach R
  have hB := fun r' q v => Bs.bear a1 hx R.here hc (u := LS.length + 1) (by omega) (r := r') (q := q) (v := v)
  have hnot : D[j] ∉ D.take j := fun hd => by
    obtain ⟨v, hv⟩ := a6 _ hd
    have := (Bs.at a1 R.here hx).1 hv
    omega
  refine ⟨a1.bear hx _, a2, a3, ?_, fun i g e => pn_app.2 (.inl (h.lst i g e)), ?_, ?_, ?_, ?_, ?_⟩
  · intro r' q v hr
    rw [hB]
    constructor
    · rintro (⟨e, _⟩ | e)
      · exact absurd e hr
      · exact (a4 r' q v hr).1 e
    · intro e; exact .inr ((a4 r' q v hr).2 e)
  · intro q v hb'
    rcases (hB _ _ _).1 hb' with ⟨_, rfl, rfl⟩ | e
    · exact ⟨D[j], by rw [take_snocX hj]; exact List.mem_append_right _ (List.mem_singleton.2 rfl), rfl, pn_app.2 (.inr ⟨by omega, rfl⟩)⟩
    · obtain ⟨d, hd, e1, e2⟩ := a5 q v e
      exact ⟨d, by rw [take_snocX hj]; exact List.mem_append_left _ hd, e1, pn_app.2 (.inl e2)⟩
  · intro d hd
    rw [take_snocX hj] at hd
    rcases List.mem_append.1 hd with hd | hd
    · obtain ⟨v, hv⟩ := a6 d hd
      exact ⟨v, (hB _ _ _).2 (.inr hv)⟩
    · rw [List.mem_singleton.1 hd]; exact ⟨_, (hB _ _ _).2 (.inl ⟨rfl, rfl, rfl⟩)⟩
  · rw [take_snocX hj, uq_app_sum, if_neg hnot, pnTot_app, h.sum]; omega
  · have h1 := h.few; have h2 := R.few
    have h3 := (hD _ (List.getElem_mem hj)).2.1
    have h4 : (pp D[j]).length = D[j].2 := pth_len _ _
    omega
  · have := h.lists; simp; omega
theorem Hng.hung {N0 N : List Pn} {G0 G : List Lab} {L0 LS : List (List Nat)} {r : Nat} {D : List (Nat × Nat)} {A : Nat × Nat → List Nat} (h : Hng N0 G0 L0 r D A D.length N G LS) (hr : r ≠ 0) : Hung N G LS r D A := by
  refine ⟨hr, h.root, ?_, ?_⟩
  · have := h.sound; rwa [List.take_length] at this
  · have := h.full; rwa [List.take_length] at this
/-- The whole: j sources have their place. -/
structure Pla (Ss : List (Nat × Nat)) (T : Nat × Nat → List (Nat × Nat)) (A : Nat × Nat → Nat × Nat → List Nat) (j : Nat) (N : List Pn) (G : List Lab) (LS : List (List Nat)) : Prop where
  wf : Wf N G
  root : G[0]? = some (0, [])
  sound : ∀ q v, Bs N G 0 q v → ∃ s ∈ Ss.take j, q = pp s ∧ Hung N G LS v (T s) (A s)
  full : ∀ s ∈ Ss.take j, ∃ v, Bs N G 0 (pp s) v
  sum : pnTot LS = sumF (fun s => sumF (fun d => (A s d).length) (uq (T s))) (uq (Ss.take j))
  few : G.length ≤ 1 + 32 * j + sumF (fun s => 1 + 32 * (T s).length) (uq (Ss.take j))
  lists : LS.length ≤ sumF (fun s => (T s).length) (uq (Ss.take j))
theorem Pla.zero (Ss : List (Nat × Nat)) (T : Nat × Nat → List (Nat × Nat)) (A : Nat × Nat → Nat × Nat → List Nat) : Pla Ss T A 0 [pz] [(0, [])] [] := by
  have hw : Wf ([] ++ [pz]) ([] ++ [(([] : List Pn).length, [])]) := Wf.nil.grow
  refine ⟨hw, rfl, ?_, by simp, by simp [pnTot, sumF, uq], by simp [sumF, uq], by simp [sumF, uq]⟩
  intro q v hb
  have := (Bs.grow (N := []) (G := []) rfl (0, [])).1 hb
  obtain ⟨i, x, a1, _⟩ := this
  simp at a1
theorem Hung.same {N N1 : List Pn} {G G1 : List Lab} {LS LS1 : List (List Nat)} {r : Nat} {D : List (Nat × Nat)} {A : Nat × Nat → List Nat} (h : Hung N G LS r D A) (hg : ∀ (i : Nat) (g : Lab), G[i]? = some g → G1[i]? = some g)
    (hb : ∀ q v, Bs N1 G1 r q v ↔ Bs N G r q v) (hl : ∀ (i : Nat) (g : List Nat), LS[i]? = some g → LS1[i]? = some g) : Hung N1 G1 LS1 r D A :=
  ⟨h.1, hg _ _ h.2.1, fun q v e => by
    obtain ⟨d, hd, e1, e2⟩ := h.2.2.1 q v ((hb q v).1 e)
    exact ⟨d, hd, e1, hl _ _ e2⟩, fun d hd => by
    obtain ⟨v, hv⟩ := h.2.2.2 d hd
    exact ⟨v, (hb _ _).2 hv⟩⟩
theorem Pla.reach {Ss : List (Nat × Nat)} {T : Nat × Nat → List (Nat × Nat)} {A : Nat × Nat → Nat × Nat → List Nat} {j t : Nat} {N N1 : List Pn} {G G1 : List Lab} {LS : List (List Nat)} {q0 : List Nat} (h : Pla Ss T A j N G LS) (R : Rch N G 0 q0 N1 G1 t) :
    (∀ q v, Bs N1 G1 0 q v → ∃ s ∈ Ss.take j, q = pp s ∧ Hung N1 G1 LS v (T s) (A s)) ∧ ∀ s ∈ Ss.take j, ∃ v, Bs N1 G1 0 (pp s) v :=
  ⟨fun q v e => by
    obtain ⟨s, hs, e1, e2⟩ := h.sound q v ((R.bs _ _ _).1 e)
    exact ⟨s, hs, e1, e2.same R.ext (fun q v => R.bs _ q v) (fun _ _ e => e)⟩, fun s hs => by
    obtain ⟨v, hv⟩ := h.full s hs
    exact ⟨v, (R.bs _ _ _).2 hv⟩⟩
theorem Pla.again {Ss : List (Nat × Nat)} {T : Nat × Nat → List (Nat × Nat)} {A : Nat × Nat → Nat × Nat → List Nat} {j t : Nat} {N N1 : List Pn} {G G1 : List Lab} {LS : List (List Nat)} (h : Pla Ss T A j N G LS) (hj : j < Ss.length) (R : Rch N G 0 (pp Ss[j]) N1 G1 t)
    (hS : ∀ s ∈ Ss, Okx s) {x : Pn} (hx : N1[t]? = some x) (hc : x.c ≠ 0) : Pla Ss T A (j + 1) N1 G1 LS := by
  obtain ⟨a5, a6⟩ := h.reach R
  have hb : Bs N1 G1 0 (pp Ss[j]) x.c := (Bs.at R.wf R.here hx).2 ⟨rfl, hc⟩
  have hin : Ss[j] ∈ Ss.take j := by
    obtain ⟨d, hd, e, _⟩ := a5 _ _ hb
    rw [pp_inj (hS _ (List.getElem_mem hj)) (hS d (List.mem_of_mem_take hd)) e]; exact hd
  have h3 := (hS _ (List.getElem_mem hj)).2.1
  have h4 : (pp Ss[j]).length = Ss[j].2 := pth_len _ _
  refine ⟨R.wf, R.ext _ _ h.root, ?_, ?_, ?_, ?_, ?_⟩
  · intro q v hb'
    obtain ⟨d, hd, e⟩ := a5 q v hb'
    exact ⟨d, by rw [take_snocX hj]; exact List.mem_append_left _ hd, e⟩
  · intro d hd
    rw [take_snocX hj] at hd
    rcases List.mem_append.1 hd with hd | hd
    · exact a6 d hd
    · rw [List.mem_singleton.1 hd]; exact ⟨_, hb⟩
  · rw [take_snocX hj, uq_app_sum, if_pos hin]; exact h.sum
  · rw [take_snocX hj, uq_app_sum, if_pos hin]
    have h1 := h.few; have h2 := R.few
    omega
  · rw [take_snocX hj, uq_app_sum, if_pos hin]; exact h.lists
/-- A source that is new: its destinations were hung below r. -/
theorem Pla.more {Ss : List (Nat × Nat)} {T : Nat × Nat → List (Nat × Nat)} {A : Nat × Nat → Nat × Nat → List Nat} {j t : Nat} {N N1 N2 : List Pn} {G G1 G2 : List Lab} {LS L2 : List (List Nat)} (h : Pla Ss T A j N G LS) (hj : j < Ss.length) (R : Rch N G 0 (pp Ss[j]) N1 G1 t)
    (hS : ∀ s ∈ Ss, Okx s) {x : Pn} (hx : N1[t]? = some x) (hc : x.c = 0) (H : Hng N1 G1 LS N1.length (T Ss[j]) (A Ss[j]) (T Ss[j]).length N2 G2 L2) {y : Pn} (hy : N2[t]? = some y) :
    y.c = 0 ∧ Pla Ss T A (j + 1) (N2.set t (y.bear N1.length)) G2 L2 := by
  obtain ⟨a5, a6⟩ := h.reach R
  have htl := pn_lt hx
  have hr0 : N1.length ≠ 0 := by omega
  have hg2 : G2[t]? = some (0, pp Ss[j]) := H.ext _ _ R.here
  have hyc : y.c = 0 := by
    by_cases e : y.c = 0
    · exact e
    · have h1 : Bs N2 G2 0 (pp Ss[j]) y.c := (Bs.at H.wf hg2 hy).2 ⟨rfl, e⟩
      have h2 := (H.old 0 _ _ (by omega)).1 h1
      have := (Bs.at R.wf R.here hx).1 h2
      omega
  refine ⟨hyc, ?_⟩
  have hB := fun r' q v => Bs.bear H.wf hy hg2 hyc (u := N1.length) hr0 (r := r') (q := q) (v := v)
  have hnot : Ss[j] ∉ Ss.take j := fun hd => by
    obtain ⟨v, hv⟩ := a6 _ hd
    have := (Bs.at R.wf R.here hx).1 hv
    omega
  have hH : Hung (N2.set t (y.bear N1.length)) G2 L2 N1.length (T Ss[j]) (A Ss[j]) := (H.hung hr0).same (fun _ _ e => e) (fun q v => by
    rw [hB]
    constructor
    · rintro (⟨e, _⟩ | e)
      · omega
      · exact e
    · exact .inr) (fun _ _ e => e)
  have h3 := (hS _ (List.getElem_mem hj)).2.1
  have h4 : (pp Ss[j]).length = Ss[j].2 := pth_len _ _
  refine ⟨H.wf.bear hy _, H.ext _ _ (R.ext _ _ h.root), ?_, ?_, ?_, ?_, ?_⟩
  · intro q v hb'
    rcases (hB _ _ _).1 hb' with ⟨_, rfl, rfl⟩ | e
    · exact ⟨Ss[j], by rw [take_snocX hj]; exact List.mem_append_right _ (List.mem_singleton.2 rfl), rfl, hH⟩
    · obtain ⟨s, hs, e1, e2⟩ := a5 q v ((H.old 0 q v (by omega)).1 e)
      have hv : v ≠ 0 := e2.1
      have hvl : v < N1.length := R.wf.root v v [] e2.2.1
      refine ⟨s, by rw [take_snocX hj]; exact List.mem_append_left _ hs, e1, e2.same H.ext (fun q' v' => ?_) H.lst⟩
      rw [hB]
      constructor
      · rintro (⟨e, _⟩ | e)
        · exact absurd e hv
        · exact (H.old v q' v' (by omega)).1 e
      · intro e; exact .inr ((H.old v q' v' (by omega)).2 e)
  · intro d hd
    rw [take_snocX hj] at hd
    rcases List.mem_append.1 hd with hd | hd
    · obtain ⟨v, hv⟩ := a6 d hd
      exact ⟨v, (hB _ _ _).2 (.inr ((H.old 0 _ _ (by omega)).2 hv))⟩
    · rw [List.mem_singleton.1 hd]; exact ⟨_, (hB _ _ _).2 (.inl ⟨rfl, rfl, rfl⟩)⟩
  · rw [take_snocX hj, uq_app_sum, if_neg hnot, H.sum, h.sum, List.take_length]
  · rw [take_snocX hj, uq_app_sum, if_neg hnot]
    have h1 := h.few; have h2 := R.few; have h5 := H.few
    omega
  · rw [take_snocX hj, uq_app_sum, if_neg hnot]
    have h1 := h.lists; have h5 := H.lists
    omega
end Go.Proofs.YtgidohnikggjfaaGreat
