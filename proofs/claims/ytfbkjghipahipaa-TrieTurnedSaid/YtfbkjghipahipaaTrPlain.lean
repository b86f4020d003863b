/-
  Nodes in an arena: what a tree of numbers holds, how many nodes it has, which places it takes. No program is named here.
-/
import Derived.Below
namespace Go.Proofs.Ytfbkjghipahipaa
set_option linter.unusedVariables false
set_option linter.unusedSimpArgs false

/-- A node: two numbers, whether it is held, its value. -/
structure Nd where
  a : Nat
  b : Nat
  h : Bool
  v : Int
def ndZ : Nd := ⟨0, 0, false, 0⟩
/-- A key with its value. -/
structure En where
  k : Nat
  n : Nat
  v : Int
/-- The node of number r. -/
def gt (A : List Nd) (r : Nat) : Nd := (A[r - 1]?).getD ndZ
theorem gt_set {A : List Nd} {r p : Nat} {x : Nd} (hr : 1 ≤ r) (hl : r ≤ A.length) (hp : 1 ≤ p) : gt (A.set (r - 1) x) p = if p = r then x else gt A p := by
  unfold gt
  rw [List.getElem?_set]
  by_cases h : p = r
  · subst h
    rw [if_pos rfl, if_pos rfl, if_pos (by omega)]; rfl
  · rw [if_neg h, if_neg (by omega)]
theorem gt_same {A : List Nd} {r : Nat} {x : Nd} (hr : 1 ≤ r) (hl : r ≤ A.length) : gt (A.set (r - 1) x) r = x := by rw [gt_set hr hl hr, if_pos rfl]
theorem gt_far {A : List Nd} {r p : Nat} {x : Nd} (hr : 1 ≤ r) (hl : r ≤ A.length) (hp : 1 ≤ p) (h : p ≠ r) : gt (A.set (r - 1) x) p = gt A p := by rw [gt_set hr hl hp, if_neg h]
theorem gt_app {A : List Nd} {x : Nd} {p : Nat} (hp : 1 ≤ p) (hl : p ≤ A.length) : gt (A ++ [x]) p = gt A p := by
  unfold gt; rw [List.getElem?_append_left (by omega)]
theorem gt_last {A : List Nd} {x : Nd} : gt (A ++ [x]) (A.length + 1) = x := by
  unfold gt; simp
def ownE (d : Nd) (k n : Nat) : List En := if d.h then [⟨k, n, d.v⟩] else []
/-- What is held below the number r, whose node is h bits above the longest keys, by words and lengths. -/
def tel (W : Nat) (A : List Nd) : Nat → Nat → Nat → List En
  | 0, r, k => if r = 0 then [] else ownE (gt A r) k W
  | h + 1, r, k => if r = 0 then [] else ownE (gt A r) k (W - (h + 1)) ++ (tel W A h (gt A r).a k ++ tel W A h (gt A r).b (k + 2 ^ h))
def num (A : List Nd) : Nat → Nat → Nat
  | 0, r => if r = 0 then 0 else 1
  | h + 1, r => if r = 0 then 0 else 1 + num A h (gt A r).a + num A h (gt A r).b
def occ (A : List Nd) : Nat → Nat → Nat → Nat
  | 0, r, p => if r = 0 then 0 else if r = p then 1 else 0
  | h + 1, r, p => if r = 0 then 0 else (if r = p then 1 else 0) + occ A h (gt A r).a p + occ A h (gt A r).b p
def okT (A : List Nd) : Nat → Nat → Prop
  | 0, r => r = 0 ∨ (r ≤ A.length ∧ (gt A r).a = 0 ∧ (gt A r).b = 0 ∧ (gt A r).h = true)
  | h + 1, r => r = 0 ∨ (r ≤ A.length ∧ okT A h (gt A r).a ∧ okT A h (gt A r).b ∧ ((gt A r).h = true ∨ (gt A r).a ≠ 0 ∨ (gt A r).b ≠ 0) ∧ ((gt A r).h = false → (gt A r).v = 0))
/-- A tree whose root may hold nothing yet. -/
def opT (A : List Nd) : Nat → Nat → Prop
  | 0, r => r ≠ 0 ∧ r ≤ A.length ∧ (gt A r).a = 0 ∧ (gt A r).b = 0 ∧ ((gt A r).h = false → (gt A r).v = 0)
  | h + 1, r => r ≠ 0 ∧ r ≤ A.length ∧ okT A h (gt A r).a ∧ okT A h (gt A r).b ∧ ((gt A r).h = false → (gt A r).v = 0)
theorem tel_z (W : Nat) (A : List Nd) (h k : Nat) : tel W A h 0 k = [] := by cases h <;> simp [tel]
theorem num_z (A : List Nd) (h : Nat) : num A h 0 = 0 := by cases h <;> simp [num]
theorem occ_z (A : List Nd) (h p : Nat) : occ A h 0 p = 0 := by cases h <;> simp [occ]
theorem okT_z (A : List Nd) (h : Nat) : okT A h 0 := by cases h <;> simp [okT]
theorem okT_le {A : List Nd} {h r : Nat} (o : okT A h r) : r ≤ A.length := by
  cases h <;> (simp only [okT] at o; omega)
theorem occ_le {A : List Nd} : ∀ {h r : Nat}, okT A h r → ∀ p, 0 < occ A h r p → 1 ≤ p ∧ p ≤ A.length
  | 0, r, o, p, hp => by
    simp only [okT] at o; simp only [occ] at hp
    split at hp
    · omega
    · split at hp <;> omega
  | h + 1, r, o, p, hp => by
    simp only [okT] at o; simp only [occ] at hp
    split at hp
    · omega
    · rcases o with o | ⟨o1, o2, o3, _⟩
      · omega
      · have i2 := occ_le o2 p
        have i3 := occ_le o3 p
        split at hp
        · omega
        · omega
theorem frm {A A' : List Nd} (hl : A.length ≤ A'.length) : ∀ {h r : Nat}, (∀ p, 1 ≤ p → 0 < occ A h r p → gt A' p = gt A p) →
    (∀ W k, tel W A' h r k = tel W A h r k) ∧ num A' h r = num A h r ∧ (∀ p, occ A' h r p = occ A h r p) ∧ (okT A h r → okT A' h r)
  | 0, r, hp => by
    by_cases h0 : r = 0
    · subst h0; exact ⟨fun W k => by rw [tel_z, tel_z], by rw [num_z, num_z], fun p => by rw [occ_z, occ_z], fun _ => okT_z _ _⟩
    · have e := hp r (by omega) (by simp [occ, h0])
      refine ⟨fun W k => by simp [tel, e], rfl, fun p => rfl, fun o => ?_⟩
      simp only [okT] at *
      rw [e]
      rcases o with o | ⟨o1, o2⟩
      · exact .inl o
      · exact .inr ⟨by omega, o2⟩
  | h + 1, r, hp => by
    by_cases h0 : r = 0
    · subst h0; exact ⟨fun W k => by rw [tel_z, tel_z], by rw [num_z, num_z], fun p => by rw [occ_z, occ_z], fun _ => okT_z _ _⟩
    · have e := hp r (by omega) (by simp [occ, h0]; omega)
      obtain ⟨a1, a2, a3, a4⟩ := frm hl (h := h) (r := (gt A r).a) (fun p h1 hq => hp p h1 (by simp only [occ]; rw [if_neg h0]; omega))
      obtain ⟨b1, b2, b3, b4⟩ := frm hl (h := h) (r := (gt A r).b) (fun p h1 hq => hp p h1 (by simp only [occ]; rw [if_neg h0]; omega))
      refine ⟨fun W k => by simp only [tel, e, a1, b1], by simp only [num, e, a2, b2], fun p => by simp only [occ, e, a3, b3], fun o => ?_⟩
      simp only [okT] at *
      rw [e]
      rcases o with o | ⟨o1, o2, o3, o4⟩
      · exact .inl o
      · exact .inr ⟨by omega, a4 o2, b4 o3, o4⟩
theorem op_of_ok {A : List Nd} : ∀ {h r : Nat}, okT A h r → r ≠ 0 → opT A h r
  | 0, r, o, h0 => by
    simp only [okT, opT] at *
    rcases o with o | ⟨o1, o2, o3, o4⟩
    · omega
    · exact ⟨h0, o1, o2, o3, fun e => by rw [o4] at e; cases e⟩
  | h + 1, r, o, h0 => by
    simp only [okT, opT] at *
    rcases o with o | ⟨o1, o2, o3, o4, o5⟩
    · omega
    · exact ⟨h0, o1, o2, o3, o5⟩
theorem opT_le {A : List Nd} {h r : Nat} (o : opT A h r) : r ≠ 0 ∧ r ≤ A.length := by
  cases h <;> (simp only [opT] at o; exact ⟨o.1, o.2.1⟩)
theorem ok_ne {A : List Nd} (W : Nat) : ∀ {h r : Nat}, okT A h r → r ≠ 0 → ∀ k, tel W A h r k ≠ []
  | 0, r, o, h0, k => by
    simp only [okT] at o
    rcases o with o | ⟨o1, o2, o3, o4⟩
    · omega
    · simp [tel, h0, ownE, o4]
  | h + 1, r, o, h0, k => by
    simp only [okT] at o
    rcases o with o | ⟨o1, o2, o3, o4, o5⟩
    · omega
    · rcases o4 with o4 | o4 | o4
      · simp [tel, h0, ownE, o4]
      · have := ok_ne W o2 o4 k
        simp [tel, h0, this]
      · have := ok_ne W o3 o4 (k + 2 ^ h)
        simp [tel, h0, this]
/-- The list of the places that are free. -/
def chn (A : List Nd) : Nat → List Nat → Prop
  | f, [] => f = 0
  | f, p :: F => f = p ∧ 1 ≤ p ∧ p ≤ A.length ∧ chn A (gt A p).a F
theorem chn_frm {A A' : List Nd} (hl : A.length ≤ A'.length) : ∀ {F : List Nat} {f : Nat}, chn A f F → (∀ p, 1 ≤ p → 0 < F.count p → gt A' p = gt A p) → chn A' f F
  | [], f, h, _ => h
  | p :: F, f, h, hp => by
    obtain ⟨h1, h2, h3, h4⟩ := h
    refine ⟨h1, h2, by omega, ?_⟩
    rw [hp p h2 (by simp)]
    exact chn_frm hl h4 (fun q h1 hq => hp q h1 (by rw [List.count_cons]; omega))
theorem chn_le {A : List Nd} : ∀ {F : List Nat} {f : Nat}, chn A f F → ∀ p, 0 < F.count p → 1 ≤ p ∧ p ≤ A.length
  | [], _, _, p, hp => by simp at hp
  | q :: F, f, h, p, hp => by
    obtain ⟨h1, h2, h3, h4⟩ := h
    rw [List.count_cons] at hp
    by_cases e : q = p
    · subst e; exact ⟨h2, h3⟩
    · exact chn_le h4 p (by simpa [e] using hp)
/-- What keys lie below a node. -/
theorem rng {W : Nat} {A : List Nd} : ∀ {h r key : Nat} {e : En}, h ≤ W → key % 2 ^ h = 0 → e ∈ tel W A h r key → key ≤ e.k ∧ e.k < key + 2 ^ h ∧ W - h ≤ e.n ∧ e.n ≤ W ∧ e.k % 2 ^ (W - e.n) = 0
  | 0, r, key, e, hh, hk, he => by
    simp only [tel, ownE] at he
    split at he
    · cases he
    · split at he
      · simp at he; subst he; simp [Nat.mod_one]
      · cases he
  | h + 1, r, key, e, hh, hk, he => by
    have hp : 2 ^ (h + 1) = 2 ^ h + 2 ^ h := by rw [Nat.pow_succ]; omega
    have hpos : 0 < 2 ^ h := Nat.two_pow_pos h
    have hk1 : key % 2 ^ h = 0 := by
      obtain ⟨c, hc⟩ := Nat.dvd_of_mod_eq_zero hk
      rw [hc, Nat.pow_succ, Nat.mul_assoc]; simp
    have hk2 : (key + 2 ^ h) % 2 ^ h = 0 := by rw [Nat.add_mod_right]; exact hk1
    simp only [tel] at he
    split at he
    · cases he
    · simp only [List.mem_append] at he
      rcases he with he | he | he
      · simp only [ownE] at he
        split at he
        · simp at he; subst he
          refine ⟨Nat.le_refl _, by simp only; omega, by simp only; omega, by simp only; omega, ?_⟩
          simp only
          rw [show W - (W - (h + 1)) = h + 1 by omega]; exact hk
        · cases he
      · have := rng (by omega) hk1 he
        exact ⟨this.1, by omega, by omega, this.2.2.2⟩
      · have := rng (by omega) hk2 he
        exact ⟨by omega, by omega, by omega, this.2.2.2⟩
def ltE (x y : En) : Prop := x.k < y.k ∨ (x.k = y.k ∧ x.n < y.n)
theorem ltE_irr (x : En) : ¬ ltE x x := by unfold ltE; omega
theorem ltE_tr {x y z : En} (h : ltE x y) (g : ltE y z) : ltE x z := by unfold ltE at *; omega
def srt (l : List En) : Prop := l.Pairwise ltE
theorem tel_srt {W : Nat} {A : List Nd} : ∀ {h r key : Nat}, h ≤ W → key % 2 ^ h = 0 → srt (tel W A h r key)
  | 0, r, key, hh, hk => by
    unfold srt
    simp only [tel, ownE]
    split
    · exact List.Pairwise.nil
    · split <;> simp
  | h + 1, r, key, hh, hk => by
    have hp : 2 ^ (h + 1) = 2 ^ h + 2 ^ h := by rw [Nat.pow_succ]; omega
    have hk1 : key % 2 ^ h = 0 := by
      obtain ⟨c, hc⟩ := Nat.dvd_of_mod_eq_zero hk
      rw [hc, Nat.pow_succ, Nat.mul_assoc]; simp
    have hk2 : (key + 2 ^ h) % 2 ^ h = 0 := by rw [Nat.add_mod_right]; exact hk1
    unfold srt
    simp only [tel]
    split
    · exact List.Pairwise.nil
    · rw [List.pairwise_append, List.pairwise_append]
      refine ⟨?_, ⟨tel_srt (by omega) hk1, tel_srt (by omega) hk2, fun x hx y hy => ?_⟩, fun x hx y hy => ?_⟩
      · simp only [ownE]; split <;> simp
      · have r1 := rng (by omega) hk1 hx
        have r2 := rng (by omega) hk2 hy
        unfold ltE; omega
      · simp only [ownE] at hx
        split at hx
        · simp at hx; subst hx
          rw [List.mem_append] at hy
          rcases hy with hy | hy
          · have r1 := rng (by omega) hk1 hy
            unfold ltE; simp only; omega
          · have r2 := rng (by omega) hk2 hy
            have := Nat.two_pow_pos h
            unfold ltE; simp only; omega
        · cases hx
/-- A list in this order is known by what is in it. -/
theorem srt_ext : ∀ {l m : List En}, srt l → srt m → (∀ e, e ∈ l ↔ e ∈ m) → l = m
  | [], [], _, _, _ => rfl
  | [], y :: m, _, _, h => by have := (h y).2 (by simp); cases this
  | x :: l, [], _, _, h => by have := (h x).1 (by simp); cases this
  | x :: l, y :: m, hl, hm, h => by
    unfold srt at hl hm
    rw [List.pairwise_cons] at hl hm
    have e : x = y := by
      rcases List.mem_cons.1 ((h x).1 (by simp)) with e | e
      · exact e
      · rcases List.mem_cons.1 ((h y).2 (by simp)) with e' | e'
        · exact e'.symm
        · exact absurd (ltE_tr (hl.1 y e') (hm.1 x e)) (ltE_irr x)
    subst e
    rw [srt_ext hl.2 hm.2 (fun e => ?_)]
    constructor
    · intro he
      rcases List.mem_cons.1 ((h e).1 (List.mem_cons_of_mem _ he)) with e' | e'
      · subst e'; exact absurd (hl.1 e he) (ltE_irr e)
      · exact e'
    · intro he
      rcases List.mem_cons.1 ((h e).2 (List.mem_cons_of_mem _ he)) with e' | e'
      · subst e'; exact absurd (hm.1 e he) (ltE_irr e)
      · exact e'
theorem srt_key {l : List En} (h : srt l) {x y : En} (hx : x ∈ l) (hy : y ∈ l) (hk : x.k = y.k) (hn : x.n = y.n) : x = y := by
  unfold srt at h
  induction l with
  | nil => cases hx
  | cons z l ih =>
    rw [List.pairwise_cons] at h
    rcases List.mem_cons.1 hx with e1 | e1 <;> rcases List.mem_cons.1 hy with e2 | e2
    · rw [e1, e2]
    · have := h.1 y e2
      rw [← e1] at this; unfold ltE at this; omega
    · have := h.1 x e1
      rw [← e2] at this; unfold ltE at this; omega
    · exact ih h.2 e1 e2
end Go.Proofs.Ytfbkjghipahipaa
