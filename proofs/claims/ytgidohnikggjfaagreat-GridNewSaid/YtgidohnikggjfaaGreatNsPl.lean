/-
  Levels of spans, as plain mathematics: the order in which spans are gone through, the level of each, a tree of least numbers. No program is named here.
-/
import Derived.Below
namespace Go.Proofs.YtgidohnikggjfaaGreat
set_option linter.unusedVariables false
set_option linter.unusedSimpArgs false

/-- Have two spans a port in common? -/
def mt (a b : Nat × Nat) : Bool := decide (a.1 ≤ b.2) && decide (b.1 ≤ a.2)
theorem mt_iff {a b : Nat × Nat} : mt a b = true ↔ a.1 ≤ b.2 ∧ b.1 ≤ a.2 := by simp [mt]
theorem mt_comm (a b : Nat × Nat) : mt a b = mt b a := by unfold mt; rw [Bool.and_comm]
/-- Does a stand ahead of b in the order of levels? -/
def ahd (a b : Nat × Nat) : Prop := a.1 < b.1 ∨ (a.1 = b.1 ∧ b.2 < a.2)
theorem ahd_trans {a b c : Nat × Nat} (h : ahd a b) (g : ahd b c) : ahd a c := by unfold ahd at *; omega
theorem ahd_irr {a : Nat × Nat} (h : ahd a a) : False := by unfold ahd at h; omega
theorem ahd_tot {a b : Nat × Nat} (h : ¬ ahd a b) (hn : a ≠ b) : ahd b a := by
  have : ¬ (a.1 = b.1 ∧ a.2 = b.2) := fun e => hn (Prod.ext e.1 e.2)
  unfold ahd at *; omega
/-- In the order of levels, each once. -/
def InO (u : List (Nat × Nat)) : Prop := u.Pairwise ahd
theorem ino_uniq : ∀ {u v : List (Nat × Nat)}, InO u → InO v → (∀ x, x ∈ u ↔ x ∈ v) → u = v
  | [], [], _, _, _ => rfl
  | [], y :: v, _, _, h => absurd ((h y).2 (List.mem_cons_self ..)) (by simp)
  | x :: u, [], _, _, h => absurd ((h x).1 (List.mem_cons_self ..)) (by simp)
  | x :: u, y :: v, hu, hv, h => by
    have hu' := List.pairwise_cons.1 hu
    have hv' := List.pairwise_cons.1 hv
    have exy : x = y := by
      rcases List.mem_cons.1 ((h x).1 (List.mem_cons_self ..)) with e | e
      · exact e
      · rcases List.mem_cons.1 ((h y).2 (List.mem_cons_self ..)) with e' | e'
        · exact e'.symm
        · exact absurd (ahd_trans (hu'.1 y e') (hv'.1 x e)) ahd_irr
    subst exy
    rw [ino_uniq hu'.2 hv'.2 fun z => ?_]
    constructor
    · intro hz
      rcases List.mem_cons.1 ((h z).1 (List.mem_cons_of_mem _ hz)) with e | e
      · exact absurd (hu'.1 z hz) (by rw [e]; exact ahd_irr)
      · exact e
    · intro hz
      rcases List.mem_cons.1 ((h z).2 (List.mem_cons_of_mem _ hz)) with e | e
      · exact absurd (hv'.1 z hz) (by rw [e]; exact ahd_irr)
      · exact e
theorem ino_nodup {u : List (Nat × Nat)} (h : InO u) : u.Nodup := List.Pairwise.imp (S := fun a b => a ≠ b) (fun {a b} hab e => by subst e; exact ahd_irr hab) h

/-- Is a level free for s? -/
def fre (acc : List ((Nat × Nat) × Nat)) (s : Nat × Nat) (n : Nat) : Bool := acc.all fun p => !(decide (p.2 = n) && mt p.1 s)
theorem fre_iff {acc : List ((Nat × Nat) × Nat)} {s : Nat × Nat} {n : Nat} : fre acc s n = true ↔ ∀ p ∈ acc, p.2 = n → mt p.1 s = false := by
  simp only [fre, List.all_eq_true, Bool.not_eq_true', Bool.and_eq_false_iff, decide_eq_false_iff_not]
  exact forall_congr' fun p => forall_congr' fun _ => ⟨fun h e => h.resolve_left (fun n => n e), fun h => (Decidable.em (p.2 = n)).elim (fun e => .inr (h e)) .inl⟩
theorem fre_no {acc : List ((Nat × Nat) × Nat)} {s : Nat × Nat} {n : Nat} : fre acc s n = false ↔ ∃ p ∈ acc, p.2 = n ∧ mt p.1 s = true := by
  rw [← Bool.not_eq_true, fre_iff]
  constructor
  · intro h
    refine Classical.byContradiction fun g => h fun p hp e => ?_
    cases hm : mt p.1 s with
    | false => rfl
    | true => exact absurd ⟨p, hp, e, hm⟩ g
  · rintro ⟨p, hp, e, m⟩ h
    rw [h p hp e] at m; cases m
/-- n is the least level that is free. -/
def Lst (acc : List ((Nat × Nat) × Nat)) (s : Nat × Nat) (n : Nat) : Prop := fre acc s n = true ∧ ∀ m, m < n → fre acc s m = false
theorem lst_uniq {acc : List ((Nat × Nat) × Nat)} {s : Nat × Nat} {m n : Nat} (h : Lst acc s m) (g : Lst acc s n) : m = n := by
  rcases Nat.lt_trichotomy m n with e | e | e
  · have := g.2 m e; rw [h.1] at this; cases this
  · exact e
  · have := h.2 n e; rw [g.1] at this; cases this
def lev (acc : List ((Nat × Nat) × Nat)) (s : Nat × Nat) : Nat := ((List.range (acc.length + 1)).find? (fre acc s)).getD 0
theorem lev_spec {acc : List ((Nat × Nat) × Nat)} {s : Nat × Nat} (h : ∀ p ∈ acc, p.2 < acc.length) : Lst acc s (lev acc s) ∧ lev acc s ≤ acc.length := by
  have hf : fre acc s acc.length = true := fre_iff.2 fun p hp e => absurd (h p hp) (by omega)
  unfold lev
  cases hq : (List.range (acc.length + 1)).find? (fre acc s) with
  | none => rw [List.find?_eq_none] at hq; exact absurd hf (hq _ (by simp))
  | some n =>
    have h1 := List.find?_some hq
    have h2 := List.mem_of_find?_eq_some hq
    rw [List.find?_range_eq_some] at hq
    simp only [Option.getD_some]
    refine ⟨⟨h1, fun m hm => ?_⟩, by simp at h2; omega⟩
    have := hq.2.2 m hm
    simpa using this
theorem lev_eq {acc : List ((Nat × Nat) × Nat)} {s : Nat × Nat} {n : Nat} (h : ∀ p ∈ acc, p.2 < acc.length) (g : Lst acc s n) : n = lev acc s := lst_uniq g (lev_spec h).1

def lvs : List ((Nat × Nat) × Nat) → List (Nat × Nat) → List ((Nat × Nat) × Nat)
  | acc, [] => acc
  | acc, s :: u => lvs (acc ++ [(s, lev acc s)]) u
theorem lvs_app : ∀ (u : List (Nat × Nat)) (acc : List ((Nat × Nat) × Nat)) (s : Nat × Nat), lvs acc (u ++ [s]) = lvs acc u ++ [(s, lev (lvs acc u) s)]
  | [], _, _ => rfl
  | a :: u, acc, s => by simp only [List.cons_append, lvs]; exact lvs_app u _ s
theorem lvs_fst : ∀ (u : List (Nat × Nat)) (acc : List ((Nat × Nat) × Nat)), (lvs acc u).map (·.1) = acc.map (·.1) ++ u
  | [], acc => by simp [lvs]
  | a :: u, acc => by simp only [lvs]; rw [lvs_fst u]; simp
theorem lvs_len (u : List (Nat × Nat)) : (lvs [] u).length = u.length := by
  have := congrArg List.length (lvs_fst u [])
  simpa using this
theorem rev_ind {P : List (Nat × Nat) → Prop} (h0 : P []) (hs : ∀ u s, P u → P (u ++ [s])) (u : List (Nat × Nat)) : P u := by
  have : ∀ v : List (Nat × Nat), P v.reverse := fun v => by
    induction v with
    | nil => exact h0
    | cons a v ih => rw [List.reverse_cons]; exact hs _ _ ih
  have := this u.reverse
  rwa [List.reverse_reverse] at this
theorem lvs_lt (u : List (Nat × Nat)) : ∀ p ∈ lvs [] u, p.2 < (lvs [] u).length := by
  refine rev_ind (P := fun u => ∀ p ∈ lvs [] u, p.2 < (lvs [] u).length) (by simp [lvs]) (fun u s ih => ?_) u
  rw [lvs_app]
  intro p hp
  rw [List.length_append, List.length_singleton]
  rcases List.mem_append.1 hp with h | h
  · have := ih p h; omega
  · rw [List.mem_singleton] at h; subst h
    have := (lev_spec (s := s) ih).2
    show lev _ _ < _
    omega
theorem lvs_nodup {u : List (Nat × Nat)} (h : u.Nodup) : ((lvs [] u).map (·.1)).Nodup := by rw [lvs_fst]; simpa using h
/-- Of one span one level. -/
theorem lvs_one {u : List (Nat × Nat)} (h : u.Nodup) {s : Nat × Nat} {m n : Nat} (hm : (s, m) ∈ lvs [] u) (hn : (s, n) ∈ lvs [] u) : m = n := by
  have hd := lvs_nodup h
  generalize lvs [] u = L at hm hn hd
  induction L with
  | nil => simp at hm
  | cons a L ih =>
    rw [List.map_cons, List.nodup_cons] at hd
    rcases List.mem_cons.1 hm with e | e <;> rcases List.mem_cons.1 hn with e' | e'
    · rw [← e] at e'; exact (Prod.ext_iff.1 e').2.symm
    · exact absurd (List.mem_map_of_mem (f := (·.1)) e') (by rw [← e] at hd; exact hd.1)
    · exact absurd (List.mem_map_of_mem (f := (·.1)) e) (by rw [← e'] at hd; exact hd.1)
    · exact ih e e' hd.2

/-- A span's level. -/
def lvU (u : List (Nat × Nat)) (s : Nat × Nat) : Nat := (((lvs [] u).find? (fun p => decide (p.1 = s))).map (·.2)).getD 0
theorem lvU_mem {u : List (Nat × Nat)} {s : Nat × Nat} (h : s ∈ u) : (s, lvU u s) ∈ lvs [] u := by
  have hs : s ∈ (lvs [] u).map (·.1) := by rw [lvs_fst]; simpa using h
  obtain ⟨p, hp, e⟩ := List.mem_map.1 hs
  unfold lvU
  cases hq : (lvs [] u).find? (fun p => decide (p.1 = s)) with
  | none => rw [List.find?_eq_none] at hq; exact absurd (decide_eq_true e) (hq p hp)
  | some q =>
    have h1 : q.1 = s := by have := List.find?_some hq; simpa using this
    have h2 := List.mem_of_find?_eq_some hq
    simp only [Option.map_some, Option.getD_some]
    rw [← h1]; exact h2
theorem lvU_eq {u : List (Nat × Nat)} (hu : u.Nodup) {s : Nat × Nat} {n : Nat} (h : (s, n) ∈ lvs [] u) : lvU u s = n := by
  have hs : s ∈ u := by
    have : s ∈ (lvs [] u).map (·.1) := List.mem_map.2 ⟨_, h, rfl⟩
    rw [lvs_fst] at this; simpa using this
  exact lvs_one hu (lvU_mem hs) h
theorem lvU_lt {u : List (Nat × Nat)} {s : Nat × Nat} (h : s ∈ u) : lvU u s < u.length := by
  have := lvs_lt u _ (lvU_mem h)
  rwa [lvs_len] at this
theorem lvs_at (u v : List (Nat × Nat)) (s : Nat × Nat) : ∃ L, lvs [] (u ++ s :: v) = lvs [] u ++ (s, lev (lvs [] u) s) :: L ∧ L.map (·.1) = v := by
  have e : u ++ s :: v = (u ++ [s]) ++ v := by simp
  have aux : ∀ (v : List (Nat × Nat)) (a : List (Nat × Nat)) (acc : List ((Nat × Nat) × Nat)), lvs acc (a ++ v) = lvs (lvs acc a) v := fun v a => by
    induction a with
    | nil => intro acc; rfl
    | cons x a ih => intro acc; simp only [List.cons_append, lvs]; exact ih _
  have aux2 : ∀ (v : List (Nat × Nat)) (acc : List ((Nat × Nat) × Nat)), ∃ L, lvs acc v = acc ++ L ∧ L.map (·.1) = v := fun v => by
    induction v with
    | nil => intro acc; exact ⟨[], by simp [lvs], rfl⟩
    | cons x v ih =>
      intro acc
      obtain ⟨L, h1, h2⟩ := ih (acc ++ [(x, lev acc x)])
      exact ⟨(x, lev acc x) :: L, by simp only [lvs]; rw [h1]; simp, by simp [h2]⟩
  obtain ⟨L, h1, h2⟩ := aux2 v (lvs [] (u ++ [s]))
  exact ⟨L, by rw [e, aux, h1, lvs_app]; simp, h2⟩
/-- Two unlike spans of one level have no port in common. -/
theorem lv_apart {u : List (Nat × Nat)} (hu : u.Nodup) {s t : Nat × Nat} (hs : s ∈ u) (ht : t ∈ u) (hn : s ≠ t) (he : lvU u s = lvU u t) : mt s t = false := by
  have main : ∀ (s t : Nat × Nat) (a b : List (Nat × Nat)), u = a ++ t :: b → s ∈ a → lvU u s = lvU u t → mt s t = false := by
    intro s t a b e hsa hq
    obtain ⟨L, h1, h2⟩ := lvs_at a b t
    rw [← e] at h1
    have ha : a.Nodup := by rw [e] at hu; exact (List.nodup_append.1 hu).1
    have hm := lvU_mem hsa
    have e1 : lvU u s = lvU a s := lvU_eq hu (by rw [h1]; exact List.mem_append_left _ hm)
    have e2 : lvU u t = lev (lvs [] a) t := lvU_eq hu (by rw [h1]; simp)
    have := (lev_spec (s := t) (lvs_lt a)).1.1
    exact fre_iff.1 this _ hm (by show lvU a s = _; rw [← e1, hq, e2])
  obtain ⟨a, b, e⟩ := List.append_of_mem ht
  rw [e] at hs
  rcases List.mem_append.1 hs with h | h
  · exact main s t a b e h he
  · rcases List.mem_cons.1 h with h | h
    · exact absurd h hn
    · obtain ⟨c, d, e'⟩ := List.append_of_mem h
      rw [mt_comm]
      exact main t s (a ++ t :: c) d (by rw [e, e']; simp) (by simp) he.symm
/-- A span shares a port with one of each level below its own. -/
theorem lv_below {u : List (Nat × Nat)} (hu : u.Nodup) {s : Nat × Nat} (hs : s ∈ u) {m : Nat} (hm : m < lvU u s) : ∃ t ∈ u, lvU u t = m ∧ mt t s = true := by
  obtain ⟨a, b, e⟩ := List.append_of_mem hs
  obtain ⟨L, h1, h2⟩ := lvs_at a b s
  rw [← e] at h1
  have e2 : lvU u s = lev (lvs [] a) s := lvU_eq hu (by rw [h1]; simp)
  have := (lev_spec (s := s) (lvs_lt a)).1.2 m (by omega)
  obtain ⟨p, hp, hpm, hmt⟩ := fre_no.1 this
  have hp1 : p ∈ lvs [] u := by rw [h1]; exact List.mem_append_left _ hp
  have hp2 : p.1 ∈ u := by
    have : p.1 ∈ (lvs [] u).map (·.1) := List.mem_map.2 ⟨_, hp1, rfl⟩
    rw [lvs_fst] at this; simpa using this
  exact ⟨p.1, hp2, by rw [lvU_eq hu (n := p.2) hp1]; exact hpm, hmt⟩

/-- How many levels there are. -/
def dep : List Nat → Nat
  | [] => 0
  | n :: l => max (n + 1) (dep l)
theorem dep_lt : ∀ {l : List Nat} {n : Nat}, n ∈ l → n < dep l
  | a :: l, n, h => by
    unfold dep
    rcases List.mem_cons.1 h with e | e
    · subst e; omega
    · have := dep_lt e; omega
theorem dep_pos {l : List Nat} : 0 < dep l ↔ l ≠ [] := by cases l <;> simp [dep] <;> omega
theorem dep_app (l : List Nat) (n : Nat) : dep (l ++ [n]) = max (dep l) (n + 1) := by
  induction l with
  | nil => simp [dep]
  | cons a l ih => simp only [List.cons_append, dep, ih]; omega
theorem dep_le {l : List Nat} {k : Nat} (h : ∀ n ∈ l, n < k) : dep l ≤ k := by
  induction l with
  | nil => simp [dep]
  | cons a l ih =>
    have h1 := h a (List.mem_cons_self ..)
    have h2 := ih fun n hn => h n (List.mem_cons_of_mem _ hn)
    simp only [dep]; omega
/-- The first place at which q holds. -/
def fstI (q : Nat → Bool) : Nat → Int
  | 0 => -1
  | n + 1 => if 0 ≤ fstI q n then fstI q n else if q n then (n : Int) else -1
theorem fstI_spec (q : Nat → Bool) (n : Nat) : (fstI q n = -1 ∧ ∀ j, j < n → q j = false) ∨ ∃ k : Nat, fstI q n = (k : Int) ∧ k < n ∧ q k = true ∧ ∀ j, j < k → q j = false := by
  induction n with
  | zero => exact .inl ⟨rfl, fun j hj => absurd hj (Nat.not_lt_zero _)⟩
  | succ n ih =>
    unfold fstI
    rcases ih with ⟨e, h⟩ | ⟨k, e, h1, h2, h3⟩
    · rw [e, if_neg (by omega)]
      by_cases hq : q n = true
      · rw [if_pos hq]; exact .inr ⟨n, rfl, by omega, hq, h⟩
      · rw [if_neg hq]
        exact .inl ⟨rfl, fun j hj => by
          rcases Nat.lt_succ_iff_lt_or_eq.1 hj with g | g
          · exact h j g
          · subst g; simpa using hq⟩
    · rw [e, if_pos (by omega)]; exact .inr ⟨k, rfl, by omega, h2, h3⟩

/-! A tree of least numbers in an array: below the place n stand 2n and 2n+1. -/
def Tre (d : Array Int) (h : Nat) : Prop := d.size = 2 * h ∧ ∀ m, 1 ≤ m → m < h → d[m]! = min d[2 * m]! d[2 * m + 1]!
theorem tre_leaf {d : Array Int} {h : Nat} (T : Tre d h) : ∀ (e n x : Nat), 1 ≤ n → (n + 1) * 2 ^ e ≤ 2 * h → n * 2 ^ e ≤ x → x < (n + 1) * 2 ^ e → d[n]! ≤ d[x]!
  | 0, n, x, h1, h2, h3, h4 => by
    have : x = n := by simp at h3 h4; omega
    rw [this]; omega
  | e + 1, n, x, h1, h2, h3, h4 => by
    have ep : 2 ^ (e + 1) = 2 ^ e * 2 := Nat.pow_succ ..
    have hpos : 0 < 2 ^ e := Nat.pow_pos (by omega)
    rw [ep] at h2 h3 h4
    have hn : n < h := by
      have : (n + 1) * 1 ≤ (n + 1) * 2 ^ e := Nat.mul_le_mul_left _ hpos
      have e1 : (n + 1) * (2 ^ e * 2) = 2 * ((n + 1) * 2 ^ e) := by rw [← Nat.mul_assoc, Nat.mul_comm]
      omega
    have hm := T.2 n h1 hn
    have a1 : n * (2 ^ e * 2) = 2 * n * 2 ^ e := by rw [Nat.mul_comm (2 ^ e), ← Nat.mul_assoc, Nat.mul_comm n]
    have a2 : (n + 1) * (2 ^ e * 2) = (2 * n + 1 + 1) * 2 ^ e := by rw [Nat.mul_comm (2 ^ e), ← Nat.mul_assoc]; congr 1; omega
    have a3 : (2 * n + 1 + 1) * 2 ^ e = (2 * n + 1) * 2 ^ e + 2 ^ e := Nat.succ_mul ..
    have a4 : (2 * n + 1) * 2 ^ e = 2 * n * 2 ^ e + 2 ^ e := Nat.succ_mul ..
    rw [a1] at h3
    rw [a2] at h2 h4
    by_cases hx : x < (2 * n + 1) * 2 ^ e
    · have := tre_leaf T e (2 * n) x (by omega) (by omega) h3 hx
      omega
    · have := tre_leaf T e (2 * n + 1) x (by omega) h2 (by omega) h4
      omega
/-- On the way down: below n lies the first leaf that is less. -/
def Dwn (d : Array Int) (h : Nat) (lo : Int) (n : Nat) : Prop := 1 ≤ n ∧ n < 2 * h ∧ d[n]! < lo ∧ ∃ e, h ≤ n * 2 ^ e ∧ (n + 1) * 2 ^ e ≤ 2 * h ∧ ∀ x, h ≤ x → x < n * 2 ^ e → lo ≤ d[x]!
theorem dwn_zero {d : Array Int} {k : Nat} {lo : Int} (T : Tre d (2 ^ k)) (x : Nat) (hx : 2 ^ k ≤ x) (hx2 : x < 2 * 2 ^ k) (hl : d[x]! < lo) : Dwn d (2 ^ k) lo 1 := by
  have hpos : 0 < 2 ^ k := Nat.pow_pos (by omega)
  have := tre_leaf T k 1 x (by omega) (by omega) (by omega) (by omega)
  exact ⟨by omega, by omega, by omega, k, by omega, by omega, fun x h1 h2 => by omega⟩
theorem dwn_step {d : Array Int} {h : Nat} {lo : Int} (T : Tre d h) {n : Nat} (D : Dwn d h lo n) (hn : n < h) : (d[2 * n]! < lo → Dwn d h lo (2 * n)) ∧ (lo ≤ d[2 * n]! → Dwn d h lo (2 * n + 1)) := by
  obtain ⟨h1, h2, h3, e, g1, g2, g3⟩ := D
  have hm := T.2 n h1 hn
  cases e with
  | zero => simp at g1; omega
  | succ e =>
    have ep : 2 ^ (e + 1) = 2 ^ e * 2 := Nat.pow_succ ..
    have hpos : 0 < 2 ^ e := Nat.pow_pos (by omega)
    rw [ep] at g1 g2 g3
    have a1 : n * (2 ^ e * 2) = 2 * n * 2 ^ e := by rw [Nat.mul_comm (2 ^ e), ← Nat.mul_assoc, Nat.mul_comm n]
    have a2 : (n + 1) * (2 ^ e * 2) = (2 * n + 1 + 1) * 2 ^ e := by rw [Nat.mul_comm (2 ^ e), ← Nat.mul_assoc]; congr 1; omega
    have a3 : (2 * n + 1 + 1) * 2 ^ e = (2 * n + 1) * 2 ^ e + 2 ^ e := Nat.succ_mul ..
    have a4 : (2 * n + 1) * 2 ^ e = 2 * n * 2 ^ e + 2 ^ e := Nat.succ_mul ..
    rw [a1] at g1 g3
    rw [a2] at g2
    refine ⟨fun hl => ⟨by omega, by omega, hl, e, g1, by omega, g3⟩, fun hl => ⟨by omega, by omega, by omega, e, by omega, g2, fun x x1 x2 => ?_⟩⟩
    by_cases hx : x < 2 * n * 2 ^ e
    · exact g3 x x1 hx
    · have := tre_leaf T e (2 * n) x (by omega) (by omega) (by omega) (by omega)
      omega
theorem dwn_end {d : Array Int} {h : Nat} {lo : Int} {n : Nat} (D : Dwn d h lo n) (hn : h ≤ n) : d[n]! < lo ∧ ∀ x, h ≤ x → x < n → lo ≤ d[x]! := by
  obtain ⟨h1, h2, h3, e, g1, g2, g3⟩ := D
  refine ⟨h3, fun x x1 x2 => g3 x x1 ?_⟩
  have hpos : 0 < 2 ^ e := Nat.pow_pos (by omega)
  have : n * 1 ≤ n * 2 ^ e := Nat.mul_le_mul_left _ hpos
  omega
/-- On the way up: the tree is right but above n. -/
def Upw (d : Array Int) (h : Nat) (n : Nat) : Prop := d.size = 2 * h ∧ 1 ≤ n ∧ n < 2 * h ∧ ∀ m, 1 ≤ m → m < h → (∀ i, 1 ≤ i → m ≠ n / 2 ^ i) → d[m]! = min d[2 * m]! d[2 * m + 1]!
theorem set_at {d : Array Int} {i : Nat} (x : Int) (j : Nat) (h : i < d.size) : (d.setIfInBounds i x)[j]! = if j = i then x else d[j]! := by
  by_cases e : j = i
  · subst e; simp [h]
  · rw [if_neg e]
    have e' : ¬ i = j := fun x => e x.symm
    rw [Array.getElem!_eq_getD, Array.getElem!_eq_getD, Array.getD_eq_getD_getElem?, Array.getD_eq_getD_getElem?, Array.getElem?_setIfInBounds, if_neg e']
theorem upw_zero {d : Array Int} {h n : Nat} (T : Tre d h) (hn : h ≤ n) (hn2 : n < 2 * h) (x : Int) : Upw (d.setIfInBounds n x) h n := by
  refine ⟨by simpa using T.1, by omega, hn2, fun m h1 h2 h3 => ?_⟩
  have hs : n < d.size := by rw [T.1]; exact hn2
  have h4 := h3 1 (by omega)
  simp at h4
  rw [set_at _ _ hs, set_at _ _ hs, set_at _ _ hs, if_neg (by omega), if_neg (by omega), if_neg (by omega)]
  exact T.2 m h1 h2
theorem upw_step {d : Array Int} {h n : Nat} (U : Upw d h n) (hn : 1 < n) : Upw (d.setIfInBounds (n / 2) (min d[2 * (n / 2)]! d[2 * (n / 2) + 1]!)) h (n / 2) := by
  obtain ⟨hs, h1, h2, h3⟩ := U
  have hsz : n / 2 < d.size := by omega
  refine ⟨by simpa using hs, by omega, by omega, fun m m1 m2 m3 => ?_⟩
  have q1 := m3 1 (by omega)
  simp at q1
  rw [set_at _ _ hsz, set_at _ _ hsz, set_at _ _ hsz, if_neg (show ¬ 2 * m = n / 2 by omega), if_neg (show ¬ 2 * m + 1 = n / 2 by omega)]
  by_cases e : m = n / 2
  · rw [if_pos e, e]
  · rw [if_neg e]
    refine h3 m m1 m2 fun i hi => ?_
    cases i with
    | zero => omega
    | succ i =>
      rw [Nat.pow_succ, Nat.mul_comm, ← Nat.div_div_eq_div_mul]
      by_cases i0 : i = 0
      · subst i0; simpa using e
      · exact m3 i (by omega)
theorem upw_end {d : Array Int} {h : Nat} (U : Upw d h 1) : Tre d h := by
  refine ⟨U.1, fun m h1 h2 => U.2.2.2 m h1 h2 fun i hi => ?_⟩
  have : (1 : Nat) / 2 ^ i = 0 := Nat.div_eq_of_lt (Nat.one_lt_two_pow (by omega))
  omega

/-! The last port taken of each level, and the levels. -/
def Hld (d : Array Int) (h : Nat) (acc : List ((Nat × Nat) × Nat)) : Prop :=
  ∀ j, j < h → (∀ p ∈ acc, p.2 = j → (p.1.2 : Int) ≤ d[h + j]!) ∧ (d[h + j]! = -1 ∨ ∃ p ∈ acc, p.2 = j ∧ (p.1.2 : Int) = d[h + j]!)
theorem hld_free {d : Array Int} {h : Nat} {acc : List ((Nat × Nat) × Nat)} (H : Hld d h acc) {s : Nat × Nat} (hs : s.1 ≤ s.2) (hb : ∀ p ∈ acc, p.1.1 ≤ s.1) {j : Nat} (hj : j < h) : fre acc s j = true ↔ d[h + j]! < (s.1 : Int) := by
  obtain ⟨h1, h2⟩ := H j hj
  rw [fre_iff]
  constructor
  · intro hf
    rcases h2 with e | ⟨p, hp, e, ev⟩
    · omega
    · have := hf p hp e
      have hbp := hb p hp
      have : ¬ (p.1.1 ≤ s.2 ∧ s.1 ≤ p.1.2) := by rw [← mt_iff, this]; simp
      omega
  · intro hl p hp e
    have := h1 p hp e
    rw [Bool.eq_false_iff, Ne, mt_iff]
    omega
theorem hld_put {d d' : Array Int} {h : Nat} {acc : List ((Nat × Nat) × Nat)} (H : Hld d h acc) {s : Nat × Nat} (hs : s.1 ≤ s.2) {j : Nat} (hj : j < h) (hl : d[h + j]! < (s.1 : Int)) (hd : ∀ k, k < h → d'[h + k]! = if k = j then (s.2 : Int) else d[h + k]!) : Hld d' h (acc ++ [(s, j)]) := by
  intro k hk
  obtain ⟨h1, h2⟩ := H k hk
  rw [hd k hk]
  by_cases e : k = j
  · subst e
    rw [if_pos rfl]
    refine ⟨fun p hp ep => ?_, .inr ⟨(s, k), by simp, rfl, rfl⟩⟩
    rcases List.mem_append.1 hp with g | g
    · have := h1 p g ep; omega
    · rw [List.mem_singleton] at g; subst g; exact Int.le_refl _
  · rw [if_neg e]
    refine ⟨fun p hp ep => ?_, ?_⟩
    · rcases List.mem_append.1 hp with g | g
      · exact h1 p g ep
      · rw [List.mem_singleton] at g; subst g; exact absurd ep.symm e
    · rcases h2 with g | ⟨p, hp, ep, ev⟩
      · exact .inl g
      · exact .inr ⟨p, List.mem_append_left _ hp, ep, ev⟩
/-- There is a free level, and the first one is the span's. -/
theorem hld_room {d : Array Int} {h : Nat} {u : List (Nat × Nat)} (H : Hld d h (lvs [] u)) {s : Nat × Nat} (hs : s.1 ≤ s.2) (hb : ∀ p ∈ u, p.1 ≤ s.1) (hr : u.length < h) : d[h + u.length]! < (s.1 : Int) := by
  refine (hld_free H hs (fun p hp => hb _ ?_) hr).1 (fre_iff.2 fun p hp e => ?_)
  · have : p.1 ∈ (lvs [] u).map (·.1) := List.mem_map.2 ⟨_, hp, rfl⟩
    rw [lvs_fst] at this; simpa using this
  · have := lvs_lt u p hp
    rw [lvs_len] at this; omega
theorem hld_lev {d : Array Int} {h : Nat} {u : List (Nat × Nat)} (H : Hld d h (lvs [] u)) {s : Nat × Nat} (hs : s.1 ≤ s.2) (hb : ∀ p ∈ u, p.1 ≤ s.1) {j : Nat} (hj : j < h) (h1 : d[h + j]! < (s.1 : Int)) (h2 : ∀ x, h ≤ x → x < h + j → (s.1 : Int) ≤ d[x]!) : j = lev (lvs [] u) s := by
  have hb' : ∀ p ∈ lvs [] u, p.1.1 ≤ s.1 := fun p hp => hb _ (by
    have : p.1 ∈ (lvs [] u).map (·.1) := List.mem_map.2 ⟨_, hp, rfl⟩
    rw [lvs_fst] at this; simpa using this)
  refine lev_eq (lvs_lt u) ⟨(hld_free H hs hb' hj).2 h1, fun m hm => ?_⟩
  rw [Bool.eq_false_iff, Ne, hld_free H hs hb' (by omega)]
  have := h2 (h + m) (by omega) (by omega)
  omega
end Go.Proofs.YtgidohnikggjfaaGreat
