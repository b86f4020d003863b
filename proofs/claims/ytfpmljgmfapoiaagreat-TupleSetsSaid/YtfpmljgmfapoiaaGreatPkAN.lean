/-
  PkAN: HvPl HvU, one behind the other (tools/pack.py).
-/
import Derived.Below
import Derived.Test.YtfpmljgmfapoiaaGreatPkAD
import Derived.Test.YtfpmljgmfapoiaaGreatPkAJ
import Derived.Test.YtfpmljgmfapoiaaGreatPkAC
import Derived.Test.YtfpmljgmfapoiaaGreatProg
import Derived.Maps.AppendAt
import Derived.OwnWalk
import Derived.Deep.AppendLies
import Derived.Laws.CopyOwn
import Derived.Deep.DeepCutAuto
import Derived.RegionTactic
import Derived.BigRegion
/-
  Slots that are gone through by open addressing, as plain mathematics: what they hold, where a search ends, what a change leaves. No program is named here.
-/
namespace Go.Proofs.YtfpmljgmfapoiaaGreat.Hx
set_option linter.unusedVariables false
set_option linter.unusedSimpArgs false

/-- Odd steps come to each of so many slots. -/
theorem odd_onto : ∀ (m s b : Nat), s % 2 = 1 → ∃ i, i < 2 ^ m ∧ (i * s) % 2 ^ m = b % 2 ^ m
  | 0, s, b, _ => ⟨0, by simp, by simp [Nat.mod_one]⟩
  | m + 1, s, b, hs => by
    obtain ⟨i, hi, he⟩ := odd_onto m s b hs
    have hM : 0 < 2 ^ m := Nat.two_pow_pos m
    have e2 : 2 ^ (m + 1) = 2 ^ m * 2 := Nat.pow_succ ..
    by_cases hc : (i * s / 2 ^ m) % 2 = (b / 2 ^ m) % 2
    · exact ⟨i, by omega, by rw [e2, Nat.mod_mul, Nat.mod_mul, he, hc]⟩
    · refine ⟨i + 2 ^ m, by omega, ?_⟩
      rw [e2, Nat.mod_mul, Nat.mod_mul, Nat.add_mul, Nat.add_mul_mod_self_left, he, Nat.add_mul_div_left _ _ hM]
      have : (i * s / 2 ^ m + s) % 2 = (b / 2 ^ m) % 2 := by omega
      rw [this]
/-- The way of a search: a first slot and an odd step. -/
theorem way_onto {m F S : Nat} (hS : S % 2 = 1) (j : Nat) (hj : j < 2 ^ m) : ∃ i, i < 2 ^ m ∧ (F + i * S) % 2 ^ m = j := by
  have hM : 0 < 2 ^ m := Nat.two_pow_pos m
  obtain ⟨i, hi, he⟩ := odd_onto m S (j + (2 ^ m - F % 2 ^ m)) hS
  refine ⟨i, hi, ?_⟩
  rw [Nat.add_mod, he, ← Nat.add_mod]
  have h1 : F = F % 2 ^ m + 2 ^ m * (F / 2 ^ m) := (Nat.mod_add_div F (2 ^ m)).symm
  have h2 : F % 2 ^ m < 2 ^ m := Nat.mod_lt _ hM
  have h3 : F + (j + (2 ^ m - F % 2 ^ m)) = j + 2 ^ m * (F / 2 ^ m + 1) := by
    rw [Nat.mul_add]; omega
  rw [h3, Nat.add_mul_mod_self_left, Nat.mod_eq_of_lt hj]
theorem way_step {n F S i : Nat} : ((F + i * S) % n + S) % n = (F + (i + 1) * S) % n := by
  rw [Nat.mod_add_mod, Nat.add_mul, Nat.one_mul, Nat.add_assoc]

/-- A slot: 0 free, 1 held, 2 left. -/
structure Sl (κ α : Type) where
  st : Nat
  k : κ
  v : α
theorem two_of_count {β : Type} {p : β → Bool} : ∀ {l : List β}, 2 ≤ l.countP p → ∃ i j : Nat, i < j ∧ ∃ a b, l[i]? = some a ∧ l[j]? = some b ∧ p a = true ∧ p b = true
  | [], h => by simp at h
  | x :: l, h => by
    by_cases hx : p x = true
    · rw [List.countP_cons_of_pos hx] at h
      obtain ⟨b, hb, hp⟩ := List.countP_pos_iff.1 (show 0 < l.countP p by omega)
      obtain ⟨j, hj⟩ := List.getElem?_of_mem hb
      exact ⟨0, j + 1, by omega, x, b, rfl, by simpa using hj, hx, hp⟩
    · rw [List.countP_cons_of_neg hx] at h
      obtain ⟨i, j, hij, a, b, ha, hb, hp, hq⟩ := two_of_count h
      exact ⟨i + 1, j + 1, by omega, a, b, by simpa using ha, by simpa using hb, hp, hq⟩
theorem countP_set' {β : Type} {p : β → Bool} : ∀ {l : List β} {i : Nat} {a b : β}, l[i]? = some a → (l.set i b).countP p + (if p a then 1 else 0) = l.countP p + (if p b then 1 else 0)
  | [], i, a, b, h => by simp at h
  | x :: l, 0, a, b, h => by
    simp only [List.getElem?_cons_zero, Option.some.injEq] at h
    subst h
    simp only [List.set_cons_zero, List.countP_cons]; omega
  | x :: l, i + 1, a, b, h => by
    have := countP_set' (p := p) (b := b) (show l[i]? = some a by simpa using h)
    simp only [List.set_cons_succ, List.countP_cons]; omega
/-- Where a header's search goes: each slot is come to. -/
structure Scat {κ : Type} (P : κ → Nat → Nat → Nat) : Prop where
  lt : ∀ k m i, P k (2 ^ m) i < 2 ^ m
  onto : ∀ k m j, j < 2 ^ m → ∃ i, i < 2 ^ m ∧ P k (2 ^ m) i = j

section
variable {κ α : Type} (P : κ → Nat → Nat → Nat)
/-- The first i slots of a header's way are not free, and none is held under it. -/
def rch (l : List (Sl κ α)) (k : κ) (i : Nat) : Prop := ∀ i' < i, ∀ s, l[P k l.length i']? = some s → s.st ≠ 0 ∧ ¬ (s.st = 1 ∧ s.k = k)
/-- What holds of slots: c are held, sp are not free. -/
structure Inv (l : List (Sl κ α)) (c sp : Nat) : Prop where
  pw : ∃ m, l.length = 2 ^ m ∧ 3 ≤ m
  cn : c = l.countP (fun s => s.st == 1)
  sn : sp = l.countP (fun s => s.st != 0)
  ro : 4 * sp ≤ 3 * l.length
  re : ∀ j s, l[j]? = some s → s.st = 1 → ∃ i, P s.k l.length i = j ∧ rch P l s.k i
  s3 : ∀ (j : Nat) (s : Sl κ α), l[j]? = some s → s.st ≤ 2
end
def Has {κ α : Type} (l : List (Sl κ α)) (k : κ) (v : α) : Prop := ∃ (j : Nat) (s : Sl κ α), l[j]? = some s ∧ s.st = 1 ∧ s.k = k ∧ s.v = v
section
variable {κ α : Type} {P : κ → Nat → Nat → Nat}
theorem Inv.eight {l : List (Sl κ α)} {c sp : Nat} (h : Inv P l c sp) : 8 ≤ l.length := by
  obtain ⟨m, hm, h3⟩ := h.pw
  have : 2 ^ 3 ≤ 2 ^ m := Nat.pow_le_pow_right (by omega) h3
  omega
theorem Inv.le {l : List (Sl κ α)} {c sp : Nat} (h : Inv P l c sp) : c ≤ sp := by
  rw [h.cn, h.sn]
  exact List.countP_mono_left (fun x _ hx => by simp only [beq_iff_eq] at hx; simp [hx])
theorem Inv.room {l : List (Sl κ α)} {c sp : Nat} (h : Inv P l c sp) : c + 2 ≤ l.length := by
  have := h.le; have := h.ro; have := h.eight; omega
theorem Inv.at {l : List (Sl κ α)} {c sp : Nat} (hP : Scat P) (h : Inv P l c sp) (k : κ) (i : Nat) : P k l.length i < l.length := by
  obtain ⟨m, hm, _⟩ := h.pw
  rw [hm]; exact hP.lt k m i
theorem Inv.get {l : List (Sl κ α)} {c sp : Nat} (hP : Scat P) (h : Inv P l c sp) (k : κ) (i : Nat) : ∃ s, l[P k l.length i]? = some s := ⟨_, List.getElem?_eq_getElem (h.at hP k i)⟩
/-- A free slot is come to ahead of the last. -/
theorem Inv.free {l : List (Sl κ α)} {c sp : Nat} (hP : Scat P) (h : Inv P l c sp) (k : κ) : ∃ i s, i + 1 < l.length ∧ l[P k l.length i]? = some s ∧ s.st = 0 := by
  have hn := h.eight
  have hs := h.sn
  have hr := h.ro
  have hc : l.countP (fun s => s.st == 0) + l.countP (fun s => s.st != 0) = l.length := by
    rw [List.length_eq_countP_add_countP (fun s : Sl κ α => s.st == 0)]
    congr 1
    exact List.countP_congr (fun x _ => by simp)
  obtain ⟨j1, j2, hj, a, b, ha, hb, hpa, hpb⟩ := two_of_count (l := l) (p := fun s => s.st == 0) (by omega)
  obtain ⟨m, hm, _⟩ := h.pw
  have l1 : j1 < l.length := (List.getElem?_eq_some_iff.1 ha).1
  have l2 : j2 < l.length := (List.getElem?_eq_some_iff.1 hb).1
  obtain ⟨i1, h1, e1⟩ := hP.onto k m j1 (by omega)
  obtain ⟨i2, h2, e2⟩ := hP.onto k m j2 (by omega)
  rw [← hm] at e1 e2
  by_cases hh : i1 + 1 < l.length
  · exact ⟨i1, a, hh, by rw [e1]; exact ha, by simpa using hpa⟩
  · refine ⟨i2, b, ?_, by rw [e2]; exact hb, by simpa using hpb⟩
    have : i1 ≠ i2 := fun e => by subst e; omega
    omega
/-- Where one held slot ends a search, no other does. -/
theorem Inv.one {l : List (Sl κ α)} {c sp : Nat} (h : Inv P l c sp) {i j : Nat} {a b : Sl κ α} (ha : l[i]? = some a) (hb : l[j]? = some b) (h1 : a.st = 1) (h2 : b.st = 1) (hk : a.k = b.k) : i = j := by
  obtain ⟨p, e1, r1⟩ := h.re i a ha h1
  obtain ⟨q, e2, r2⟩ := h.re j b hb h2
  rw [hk] at e1 r1
  rcases Nat.lt_trichotomy p q with g | g | g
  · exact absurd ⟨h1, hk⟩ (r2 p g a (by rw [e1]; exact ha)).2
  · subst g; omega
  · exact absurd ⟨h2, rfl⟩ (r1 q g b (by rw [e2]; exact hb)).2
/-- A search that ends at a free slot found none. -/
theorem Inv.miss {l : List (Sl κ α)} {c sp : Nat} (h : Inv P l c sp) {k : κ} {p : Nat} {s : Sl κ α} (hr : rch P l k p) (hs : l[P k l.length p]? = some s) (h0 : s.st = 0) (v : α) : ¬ Has l k v := by
  rintro ⟨j, a, ha, h1, h2, h3⟩
  obtain ⟨i, e1, r1⟩ := h.re j a ha h1
  rw [h2] at e1 r1
  rcases Nat.lt_trichotomy i p with g | g | g
  · exact (hr i g a (by rw [e1]; exact ha)).2 ⟨h1, h2⟩
  · subst g; rw [e1, ha] at hs; cases hs; omega
  · exact (r1 p g s hs).1 h0
theorem Inv.hit {l : List (Sl κ α)} {c sp : Nat} {k : κ} {j : Nat} {s : Sl κ α} (hs : l[j]? = some s) (h1 : s.st = 1) (hk : s.k = k) : Has l k s.v := ⟨j, s, hs, h1, hk, rfl⟩
/-- Slots of which none is held. -/
def newL (n : Nat) (z : Sl κ α) : List (Sl κ α) := List.replicate n z
theorem inv_new {n m : Nat} {z : Sl κ α} (hn : n = 2 ^ m) (hm : 3 ≤ m) (hz : z.st = 0) : Inv P (newL n z) 0 0 where
  pw := ⟨m, by simp [newL, hn], hm⟩
  cn := by simp [newL, List.countP_replicate, hz]
  sn := by simp [newL, List.countP_replicate, hz]
  ro := by omega
  re := fun j s hj h1 => by
    have := List.eq_of_mem_replicate (List.mem_of_getElem? hj)
    subst this; omega
  s3 := fun j s hj => by
    have := List.eq_of_mem_replicate (List.mem_of_getElem? hj)
    subst this; omega
theorem has_new {n : Nat} {z : Sl κ α} (hz : z.st = 0) (k : κ) (v : α) : ¬ Has (newL n z) k v := by
  rintro ⟨j, s, hj, h1, _⟩
  have := List.eq_of_mem_replicate (List.mem_of_getElem? hj)
  subst this; omega
/-- A change at one slot: ways of other headers stay where it is not made free, and is held under none of them. -/
theorem rch_set {l : List (Sl κ α)} {k : κ} {i j : Nat} {a b : Sl κ α} (ha : l[j]? = some a) (h0 : b.st ≠ 0) (hb : ¬ (b.st = 1 ∧ b.k = k)) (h : rch P l k i) : rch P (l.set j b) k i := by
  intro i' hi s hs
  rw [List.length_set, List.getElem?_set] at hs
  split at hs
  · split at hs
    · cases hs; exact ⟨h0, hb⟩
    · cases hs
  · exact h i' hi s hs
theorem rch_same {l : List (Sl κ α)} {k : κ} {i j : Nat} {a b : Sl κ α} (ha : l[j]? = some a) (h0 : b.st = a.st) (hb : b.k = a.k) (h : rch P l k i) : rch P (l.set j b) k i := by
  intro i' hi s hs
  rw [List.length_set, List.getElem?_set] at hs
  split at hs
  · rename_i e
    split at hs
    · cases hs; rw [h0, hb]; exact h i' hi a (by rw [← e]; exact ha)
    · cases hs
  · exact h i' hi s hs
theorem get_set {l : List (Sl κ α)} {i j : Nat} {b : Sl κ α} (h : j < l.length) : (l.set j b)[i]? = if i = j then some b else l[i]? := by
  rw [List.getElem?_set]
  by_cases e : i = j
  · subst e; rw [if_pos rfl, if_pos rfl, if_pos h]
  · rw [if_neg e, if_neg (fun g => e g.symm)]
/-- Another value at a held slot. -/
theorem Inv.upd {l : List (Sl κ α)} {c sp j : Nat} {a : Sl κ α} (h : Inv P l c sp) (ha : l[j]? = some a) (v : α) : Inv P (l.set j ⟨a.st, a.k, v⟩) c sp where
  pw := by rw [List.length_set]; exact h.pw
  cn := by have := countP_set' (p := fun s : Sl κ α => s.st == 1) (b := ⟨a.st, a.k, v⟩) ha; have := h.cn; simp only at *; omega
  sn := by have := countP_set' (p := fun s : Sl κ α => s.st != 0) (b := ⟨a.st, a.k, v⟩) ha; have := h.sn; simp only at *; omega
  ro := by rw [List.length_set]; exact h.ro
  re := fun i s hs h1 => by
    have hj : j < l.length := (List.getElem?_eq_some_iff.1 ha).1
    rw [get_set hj] at hs
    split at hs
    · rename_i e; cases hs; subst e
      obtain ⟨p, e1, r1⟩ := h.re i a ha h1
      exact ⟨p, by rw [List.length_set]; exact e1, rch_same ha rfl rfl r1⟩
    · obtain ⟨p, e1, r1⟩ := h.re i s hs h1
      exact ⟨p, by rw [List.length_set]; exact e1, rch_same ha rfl rfl r1⟩
  s3 := fun i s hs => by
    rw [get_set (List.getElem?_eq_some_iff.1 ha).1] at hs
    split at hs
    · cases hs; exact h.s3 j a ha
    · exact h.s3 i s hs
theorem has_upd [DecidableEq κ] {l : List (Sl κ α)} {c sp j : Nat} {a : Sl κ α} (h : Inv P l c sp) (ha : l[j]? = some a) (h1 : a.st = 1) (v : α) (k : κ) (u : α) : Has (l.set j ⟨a.st, a.k, v⟩) k u ↔ if k = a.k then u = v else Has l k u := by
  have hj : j < l.length := (List.getElem?_eq_some_iff.1 ha).1
  constructor
  · rintro ⟨i, s, hs, g1, g2, g3⟩
    rw [get_set hj] at hs
    split at hs
    · cases hs; simp only at g2 g3; rw [if_pos g2.symm]; exact g3.symm
    · rename_i e
      rw [if_neg (fun q => e (h.one hs ha g1 h1 (by rw [g2, q])))]
      exact ⟨i, s, hs, g1, g2, g3⟩
  · intro g
    split at g
    · rename_i e
      exact ⟨j, ⟨a.st, a.k, v⟩, by rw [get_set hj, if_pos rfl], h1, e.symm, g.symm⟩
    · rename_i e
      obtain ⟨i, s, hs, g1, g2, g3⟩ := g
      exact ⟨i, s, by rw [get_set hj, if_neg (fun q => by subst q; rw [ha] at hs; cases hs; exact e g2.symm)]; exact hs, g1, g2, g3⟩
/-- A held slot is left. -/
theorem Inv.del {l : List (Sl κ α)} {c sp j : Nat} {a z : Sl κ α} (h : Inv P l c sp) (ha : l[j]? = some a) (h1 : a.st = 1) (hz : z.st = 2) : Inv P (l.set j z) (c - 1) sp ∧ 1 ≤ c := by
  have hj : j < l.length := (List.getElem?_eq_some_iff.1 ha).1
  have hc := countP_set' (p := fun s : Sl κ α => s.st == 1) (b := z) ha
  have hs := countP_set' (p := fun s : Sl κ α => s.st != 0) (b := z) ha
  simp only [h1, hz, BEq.rfl, if_true, Nat.reduceBEq, Bool.false_eq_true, if_false, bne, Bool.not_false] at hc hs
  have hcn := h.cn
  have hsn := h.sn
  refine ⟨⟨by rw [List.length_set]; exact h.pw, by omega, by simp only [bne] at *; omega, by rw [List.length_set]; exact h.ro, fun i s hs' g1 => ?_, fun i s hs' => ?_⟩, by omega⟩
  · rw [get_set hj] at hs'
    split at hs'
    · cases hs'; omega
    · obtain ⟨p, e1, r1⟩ := h.re i s hs' g1
      exact ⟨p, by rw [List.length_set]; exact e1, rch_set ha (by omega) (by omega) r1⟩
  · rw [get_set hj] at hs'
    split at hs'
    · cases hs'; omega
    · exact h.s3 i s hs'
theorem has_del [DecidableEq κ] {l : List (Sl κ α)} {c sp j : Nat} {a z : Sl κ α} (h : Inv P l c sp) (ha : l[j]? = some a) (h1 : a.st = 1) (hz : z.st = 2) (k : κ) (u : α) : Has (l.set j z) k u ↔ if k = a.k then False else Has l k u := by
  have hj : j < l.length := (List.getElem?_eq_some_iff.1 ha).1
  constructor
  · rintro ⟨i, s, hs, g1, g2, g3⟩
    rw [get_set hj] at hs
    split at hs
    · cases hs; omega
    · rename_i e
      rw [if_neg (fun q => e (h.one hs ha g1 h1 (by rw [g2, q])))]
      exact ⟨i, s, hs, g1, g2, g3⟩
  · intro g
    split at g
    · exact g.elim
    · rename_i e
      obtain ⟨i, s, hs, g1, g2, g3⟩ := g
      exact ⟨i, s, by rw [get_set hj, if_neg (fun q => by subst q; rw [ha] at hs; cases hs; exact e g2.symm)]; exact hs, g1, g2, g3⟩
/-- Where an entry for a header may be laid: none is under it, its way comes there. -/
def May (P : κ → Nat → Nat → Nat) (l : List (Sl κ α)) (k : κ) (j : Nat) : Prop := (∀ v, ¬ Has l k v) ∧ ∃ q a, j = P k l.length q ∧ l[j]? = some a ∧ a.st ≠ 1 ∧ rch P l k q ∧ ∀ i < q, P k l.length i ≠ j
theorem Inv.fil {l : List (Sl κ α)} {c sp j : Nat} {a : Sl κ α} {k : κ} (h : Inv P l c sp) (hm : May P l k j) (ha : l[j]? = some a) (v : α) (hr : a.st = 0 → 4 * (sp + 1) ≤ 3 * l.length) : Inv P (l.set j ⟨1, k, v⟩) (c + 1) (if a.st = 0 then sp + 1 else sp) := by
  obtain ⟨hno, q, a', hjq, ha', hst, hrq, hfar⟩ := hm
  rw [ha] at ha'; cases ha'
  have hj : j < l.length := (List.getElem?_eq_some_iff.1 ha).1
  have hc := countP_set' (p := fun s : Sl κ α => s.st == 1) (b := ⟨1, k, v⟩) ha
  have hs := countP_set' (p := fun s : Sl κ α => s.st != 0) (b := ⟨1, k, v⟩) ha
  have hcn := h.cn
  have hsn := h.sn
  have hro := h.ro
  have e1 : (a.st == 1) = false := by simpa using hst
  refine ⟨by rw [List.length_set]; exact h.pw, ?_, ?_, ?_, fun i s hs' g1 => ?_, fun i s hs' => ?_⟩
  · simp only [e1, BEq.rfl, if_true, Bool.false_eq_true, if_false] at hc; omega
  · by_cases h0 : a.st = 0
    · simp only [h0, bne, BEq.rfl, Bool.not_true, Bool.false_eq_true, if_false, Nat.reduceBEq, Bool.not_false, if_true] at hs ⊢
      simp only [bne] at hsn; omega
    · have : (a.st != 0) = true := by simpa using h0
      rw [if_pos this] at hs
      simp only [if_neg h0]
      simp only [bne, Nat.reduceBEq, Bool.not_false, if_true] at hs hsn ⊢; omega
  · rw [List.length_set]
    split
    · rename_i h0; exact hr h0
    · exact hro
  · rw [get_set hj] at hs'
    split at hs'
    · rename_i e; cases hs'; subst e
      refine ⟨q, by rw [List.length_set]; exact hjq.symm, ?_⟩
      intro i' hi s hs2
      rw [List.length_set, get_set hj, if_neg (hfar i' hi)] at hs2
      exact hrq i' hi s hs2
    · obtain ⟨p, e2, r2⟩ := h.re i s hs' g1
      refine ⟨p, by rw [List.length_set]; exact e2, rch_set ha (by simp) (fun g => hno s.v ⟨i, s, hs', g1, g.2.symm, rfl⟩) r2⟩
  · rw [get_set hj] at hs'
    split at hs'
    · cases hs'; simp
    · exact h.s3 i s hs'
theorem has_fil [DecidableEq κ] {l : List (Sl κ α)} {j : Nat} {a : Sl κ α} {k : κ} (hno : ∀ v, ¬ Has l k v) (ha : l[j]? = some a) (hst : a.st ≠ 1) (v : α) (k' : κ) (u : α) : Has (l.set j ⟨1, k, v⟩) k' u ↔ if k' = k then u = v else Has l k' u := by
  have hj : j < l.length := (List.getElem?_eq_some_iff.1 ha).1
  constructor
  · rintro ⟨i, s, hs, g1, g2, g3⟩
    rw [get_set hj] at hs
    split at hs
    · cases hs; simp only at g2 g3; rw [if_pos g2.symm]; exact g3.symm
    · rw [if_neg (fun q => hno s.v ⟨i, s, hs, g1, g2.trans q, rfl⟩)]
      exact ⟨i, s, hs, g1, g2, g3⟩
  · intro g
    split at g
    · rename_i e
      exact ⟨j, _, by rw [get_set hj, if_pos rfl], rfl, e.symm, g.symm⟩
    · rename_i e
      obtain ⟨i, s, hs, g1, g2, g3⟩ := g
      exact ⟨i, s, by rw [get_set hj, if_neg (fun q => by subst q; rw [ha] at hs; cases hs; omega)]; exact hs, g1, g2, g3⟩
/-- Where a search stands behind p slots: again is the first that was left, if there is one. -/
structure Sk (P : κ → Nat → Nat → Nat) (l : List (Sl κ α)) (k : κ) (p : Nat) (again : Int) : Prop where
  r : rch P l k p
  none : again = -1 → ∀ i < p, ∀ s, l[P k l.length i]? = some s → s.st = 1
  some : again ≠ -1 → ∃ q < p, again = (P k l.length q : Int) ∧ (∀ i < q, ∀ s, l[P k l.length i]? = some s → s.st = 1) ∧ ∃ s, l[P k l.length q]? = some s ∧ s.st ≠ 1
theorem sk_zero {l : List (Sl κ α)} {k : κ} : Sk P l k 0 (-1) := ⟨fun i hi => by omega, fun _ i hi => by omega, fun h => absurd rfl h⟩
theorem Sk.next {l : List (Sl κ α)} {k : κ} {p : Nat} {again : Int} {s : Sl κ α} (h : Sk P l k p again) (hs : l[P k l.length p]? = .some s) (h1 : s.st = 1) (hk : s.k ≠ k) : Sk P l k (p + 1) again where
  r := fun i hi t ht => by
    rcases Nat.lt_succ_iff_lt_or_eq.1 hi with g | g
    · exact h.r i g t ht
    · subst g; rw [hs] at ht; cases ht; exact ⟨by omega, fun g => hk g.2⟩
  none := fun e i hi t ht => by
    rcases Nat.lt_succ_iff_lt_or_eq.1 hi with g | g
    · exact h.none e i g t ht
    · subst g; rw [hs] at ht; cases ht; exact h1
  some := fun e => by
    obtain ⟨q, hq, a⟩ := h.some e
    exact ⟨q, by omega, a⟩
theorem Sk.left {l : List (Sl κ α)} {k : κ} {p : Nat} {again : Int} {s : Sl κ α} (h : Sk P l k p again) (hs : l[P k l.length p]? = .some s) (h0 : s.st ≠ 0) (h1 : s.st ≠ 1) : Sk P l k (p + 1) (if again = -1 then (P k l.length p : Int) else again) where
  r := fun i hi t ht => by
    rcases Nat.lt_succ_iff_lt_or_eq.1 hi with g | g
    · exact h.r i g t ht
    · subst g; rw [hs] at ht; cases ht; exact ⟨h0, fun g => h1 g.1⟩
  none := fun e => by split at e <;> omega
  some := fun _ => by
    split
    · rename_i e
      exact ⟨p, by omega, rfl, h.none e, s, hs, h1⟩
    · rename_i e
      obtain ⟨q, hq, a⟩ := h.some e
      exact ⟨q, by omega, a⟩
/-- A search that ends at a free slot: where an entry may be laid. -/
theorem Sk.may {l : List (Sl κ α)} {c sp : Nat} {k : κ} {p : Nat} {again : Int} {s : Sl κ α} (hi : Inv P l c sp) (h : Sk P l k p again) (hs : l[P k l.length p]? = .some s) (h0 : s.st = 0) :
    May P l k (if again = -1 then P k l.length p else again.toNat) := by
  refine ⟨hi.miss h.r hs h0, ?_⟩
  split
  · rename_i e
    refine ⟨p, s, rfl, hs, by omega, h.r, fun i hi' g => ?_⟩
    exact (h.r i hi' s (by rw [g]; exact hs)).1 h0
  · rename_i e
    obtain ⟨q, hq, ha, hn, t, ht, ht1⟩ := h.some e
    rw [ha]
    refine ⟨q, t, rfl, ht, ht1, fun i hi' => h.r i (by omega), fun i hi' g => ?_⟩
    exact ht1 (hn i hi' t (by rw [g]; exact ht))
/-- A search has not gone past a free slot. -/
theorem Sk.short {l : List (Sl κ α)} {c sp : Nat} {k : κ} {p : Nat} {again : Int} (hP : Scat P) (hi : Inv P l c sp) (h : Sk P l k p again) : p + 1 < l.length := by
  obtain ⟨i, s, hi', hs, h0⟩ := hi.free hP k
  rcases Nat.lt_or_ge i p with g | g
  · exact absurd h0 (h.r i g s hs).1
  · omega
/-- What slots hold, as a map. -/
def Holds (l : List (Sl κ α)) (m : κ → Option α) : Prop := ∀ k v, Has l k v ↔ m k = some v
def upd [DecidableEq κ] (m : κ → Option α) (k : κ) (v : Option α) : κ → Option α := fun x => if x = k then v else m x
theorem Holds.upd [DecidableEq κ] {l : List (Sl κ α)} {m : κ → Option α} {c sp j : Nat} {a : Sl κ α} (h : Inv P l c sp) (hh : Holds l m) (ha : l[j]? = some a) (h1 : a.st = 1) (v : α) : Holds (l.set j ⟨a.st, a.k, v⟩) (upd m a.k (some v)) := fun k u => by
  rw [has_upd h ha h1]; unfold Go.Proofs.YtfpmljgmfapoiaaGreat.Hx.upd
  split
  · exact ⟨fun e => by rw [e], fun e => (Option.some.inj e).symm⟩
  · exact hh k u
theorem Holds.del [DecidableEq κ] {l : List (Sl κ α)} {m : κ → Option α} {c sp j : Nat} {a z : Sl κ α} (h : Inv P l c sp) (hh : Holds l m) (ha : l[j]? = some a) (h1 : a.st = 1) (hz : z.st = 2) : Holds (l.set j z) (Go.Proofs.YtfpmljgmfapoiaaGreat.Hx.upd m a.k none) := fun k u => by
  rw [has_del h ha h1 hz]; unfold Go.Proofs.YtfpmljgmfapoiaaGreat.Hx.upd
  split
  · simp
  · exact hh k u
theorem Holds.fil [DecidableEq κ] {l : List (Sl κ α)} {m : κ → Option α} {j : Nat} {a : Sl κ α} {k : κ} (hh : Holds l m) (hno : ∀ v, ¬ Has l k v) (ha : l[j]? = some a) (hst : a.st ≠ 1) (v : α) : Holds (l.set j ⟨1, k, v⟩) (Go.Proofs.YtfpmljgmfapoiaaGreat.Hx.upd m k (some v)) := fun k' u => by
  rw [has_fil hno ha hst]; unfold Go.Proofs.YtfpmljgmfapoiaaGreat.Hx.upd
  split
  · exact ⟨fun e => by rw [e], fun e => (Option.some.inj e).symm⟩
  · exact hh k' u
theorem Holds.ext {l l' : List (Sl κ α)} {m : κ → Option α} (h : Holds l m) (hg : ∀ k v, Has l' k v ↔ Has l k v) : Holds l' m := fun k v => (hg k v).trans (h k v)
theorem Holds.none {l : List (Sl κ α)} {m : κ → Option α} {k : κ} (h : Holds l m) (hn : ∀ v, ¬ Has l k v) : m k = none := by
  cases e : m k with
  | none => rfl
  | some v => exact absurd ((h k v).2 e) (hn v)
/-- Slots laid anew: the first i of the old ones are moved. -/
theorem has_take {l0 : List (Sl κ α)} {i : Nat} {s : Sl κ α} (hs : l0[i]? = some s) (k : κ) (v : α) : Has (l0.take (i + 1)) k v ↔ Has (l0.take i) k v ∨ (s.st = 1 ∧ s.k = k ∧ s.v = v) := by
  constructor
  · rintro ⟨j, a, ha, h1, h2, h3⟩
    rw [List.getElem?_take] at ha
    split at ha
    · rename_i hj
      by_cases e : j = i
      · subst e; rw [hs] at ha; cases ha; exact .inr ⟨h1, h2, h3⟩
      · exact .inl ⟨j, a, by rw [List.getElem?_take, if_pos (by omega)]; exact ha, h1, h2, h3⟩
    · cases ha
  · rintro (⟨j, a, ha, h1, h2, h3⟩ | ⟨h1, h2, h3⟩)
    · rw [List.getElem?_take] at ha
      split at ha
      · exact ⟨j, a, by rw [List.getElem?_take, if_pos (by omega)]; exact ha, h1, h2, h3⟩
      · cases ha
    · exact ⟨i, s, by rw [List.getElem?_take, if_pos (by omega)]; exact hs, h1, h2, h3⟩
theorem Inv.fresh {l0 : List (Sl κ α)} {c sp i : Nat} {s : Sl κ α} (h : Inv P l0 c sp) (hs : l0[i]? = some s) (h1 : s.st = 1) (v : α) : ¬ Has (l0.take i) s.k v := by
  rintro ⟨j, a, ha, g1, g2, g3⟩
  rw [List.getElem?_take] at ha
  split at ha
  · have := h.one ha hs g1 h1 g2
    omega
  · cases ha
/-- The state in which slots are laid anew. -/
structure Lay (P : κ → Nat → Nat → Nat) (l0 : List (Sl κ α)) (i : Nat) (l : List (Sl κ α)) (c : Nat) : Prop where
  inv : Inv P l c c
  cn : c = (l0.take i).countP (fun s => s.st == 1)
  has : ∀ k v, Has l k v ↔ Has (l0.take i) k v
theorem countP_take_succ {β : Type} {p : β → Bool} {l : List β} {i : Nat} {s : β} (hs : l[i]? = some s) : (l.take (i + 1)).countP p = (l.take i).countP p + if p s then 1 else 0 := by
  rw [List.take_add_one, hs, List.countP_append]
  simp [List.countP_cons]
theorem Lay.skip {l0 l : List (Sl κ α)} {i c : Nat} {s : Sl κ α} (h : Lay P l0 i l c) (hs : l0[i]? = some s) (h1 : s.st ≠ 1) : Lay P l0 (i + 1) l c where
  inv := h.inv
  cn := by rw [countP_take_succ hs, ← h.cn, if_neg (by simpa using h1)]; rfl
  has := fun k v => by rw [has_take hs, h.has]; exact ⟨.inl, fun g => g.resolve_right (fun q => h1 q.1)⟩
theorem Inv.noleft {l : List (Sl κ α)} {c : Nat} (h : Inv P l c c) {j : Nat} {a : Sl κ α} (ha : l[j]? = some a) (h1 : a.st ≠ 1) : a.st = 0 := by
  refine Classical.byContradiction fun h0 => ?_
  have hc := h.cn
  have hs := h.sn
  have e : ∀ (l : List (Sl κ α)) (j : Nat), l[j]? = some a → l.countP (fun s => s.st == 1) < l.countP (fun s => s.st != 0) := by
    intro l
    induction l with
    | nil => intro j hj; simp at hj
    | cons x l ih =>
      intro j hj
      have hle : l.countP (fun s => s.st == 1) ≤ l.countP (fun s => s.st != 0) := List.countP_mono_left (fun x _ hx => by simp only [beq_iff_eq] at hx; simp [hx])
      cases j with
      | zero =>
        simp only [List.getElem?_cons_zero, Option.some.injEq] at hj
        subst hj
        rw [List.countP_cons_of_neg (by simpa using h1), List.countP_cons_of_pos (by simpa using h0)]; omega
      | succ j =>
        have := ih j (by simpa using hj)
        rw [List.countP_cons, List.countP_cons]
        by_cases hx : x.st = 1
        · simp only [hx, BEq.rfl, if_true, bne, Nat.reduceBEq, Bool.not_false] at *; omega
        · have : (x.st == 1) = false := by simpa using hx
          simp only [this, Bool.false_eq_true, if_false]; omega
  have := e l j ha
  omega
theorem Lay.fill [DecidableEq κ] {l0 l : List (Sl κ α)} {i c j : Nat} {s a : Sl κ α} {c0 sp0 : Nat} (h : Lay P l0 i l c) (h0 : Inv P l0 c0 sp0) (hs : l0[i]? = some s) (h1 : s.st = 1) (hm : May P l s.k j) (ha : l[j]? = some a) (hr : 4 * (c + 1) ≤ 3 * l.length) : Lay P l0 (i + 1) (l.set j ⟨1, s.k, s.v⟩) (c + 1) where
  inv := by
    have hst : a.st ≠ 1 := by obtain ⟨_, q, a', _, ha', hst, _⟩ := hm; rw [ha] at ha'; cases ha'; exact hst
    have hz := h.inv.noleft ha hst
    have := h.inv.fil hm ha s.v (fun _ => hr)
    rw [if_pos hz] at this; exact this
  cn := by rw [countP_take_succ hs, ← h.cn, if_pos (by simpa using h1)]
  has := fun k v => by
    have hst : a.st ≠ 1 := by obtain ⟨_, q, a', _, ha', hst, _⟩ := hm; rw [ha] at ha'; cases ha'; exact hst
    rw [has_fil hm.1 ha hst, has_take hs]
    split
    · rename_i e; subst e
      exact ⟨fun e => .inr ⟨h1, rfl, e.symm⟩, fun g => g.elim (fun q => absurd q (h0.fresh hs h1 v)) (fun q => q.2.2.symm)⟩
    · rename_i e
      rw [h.has]
      exact ⟨.inl, fun g => g.resolve_right (fun q => e q.2.1.symm)⟩
theorem lay_zero {l0 : List (Sl κ α)} {n m : Nat} {z : Sl κ α} (hn : n = 2 ^ m) (hm : 3 ≤ m) (hz : z.st = 0) : Lay P l0 0 (newL n z) 0 where
  inv := inv_new hn hm hz
  cn := by simp
  has := fun k v => ⟨fun h => absurd h (has_new hz k v), fun h => by obtain ⟨j, s, hj, _⟩ := h; simp at hj⟩
theorem Lay.le {l0 l : List (Sl κ α)} {i c c0 sp0 : Nat} (h : Lay P l0 i l c) (h0 : Inv P l0 c0 sp0) : c ≤ c0 := by
  rw [h.cn, h0.cn]
  exact (List.take_sublist _ _).countP_le
theorem Lay.lt {l0 l : List (Sl κ α)} {i c c0 sp0 : Nat} {s : Sl κ α} (h : Lay P l0 i l c) (h0 : Inv P l0 c0 sp0) (hs : l0[i]? = some s) (h1 : s.st = 1) : c + 1 ≤ c0 := by
  rw [h.cn, h0.cn]
  have := (List.take_sublist (i + 1) l0).countP_le (p := fun s : Sl κ α => s.st == 1)
  rw [countP_take_succ hs, if_pos (by simpa using h1)] at this
  exact this
theorem Lay.all {l0 l : List (Sl κ α)} {c c0 sp0 : Nat} {m : κ → Option α} (h : Lay P l0 l0.length l c) (h0 : Inv P l0 c0 sp0) (hh : Holds l0 m) : c = c0 ∧ Holds l m := by
  have h1 := h.cn
  have h2 := h.has
  rw [List.take_length] at h1 h2
  exact ⟨by rw [h1, h0.cn], hh.ext h2⟩
end
end Go.Proofs.YtfpmljgmfapoiaaGreat.Hx
/-
  Rows of slots. Written by tools/mkHhU.py, after the rows of rules.
-/
namespace Go.Proofs.YtfpmljgmfapoiaaGreat.Hx
open Go.RowKit
set_option linter.unusedVariables false
set_option linter.unusedSimpArgs false

structure Sv where
  ad : Option Addr
  n : Nat
  cap : Nat
def svZ : Sv := ⟨none, 0, 0⟩
abbrev SlI := Sl Hd Sv
theorem run_store_val {P : Program} (w : World) (B o : Nat) (ty t : TypeId) (val : Value) (cs new old : Array Value) (hc : val.cells = cs) (h : w.heap[B]? = some (.cells old t (0, 0))) (hl : o + cs.size ≤ old.size)
    (hn : old.toList.take o ++ cs.toList ++ old.toList.drop (o + cs.size) = new.toList) (hi : (P.info? ty).map (·.size) = some cs.size) (h1 : cs.toList.all (·.oneCell') = true) :
    (Instr.storeAt ty (.pointer (some ⟨B, o, none⟩)) val).run P w = .ok () (w.setRow B new) := by
  have := run_storeCells_at (P := P) B o t cs.toList 0 old w h (by simpa using hl) (fun v hv => List.all_eq_true.1 h1 v hv)
  rw [show o + 0 + cs.toList.length = o + cs.size by simp, show o + 0 = o from rfl, hn, Array.toArray_toList] at this
  cases hq : P.info? ty with
  | none => simp [hq] at hi
  | some i =>
    have hs : cs.size = i.size := by simp [hq] at hi; omega
    simp [Instr.storeAt, Instr.sureAddr, storeVar, sizeOf, typeInfo, hq, hc, hs, this]
theorem wp_store_val {P : Program} {op : Oper} {a : Act} {w : World} {K : Act → World → Prop} {Q : Exit → Act → World → Prop} (ty : TypeId) (x y : Operand) (ho : op.op = .store ty x y)
    (B o : Nat) (val : Value) (cs new : Array Value) (hx : a.eval x = .pointer (some ⟨B, o, none⟩)) (hy : a.eval y = val) (hc : val.cells = cs) (t : TypeId) (old : Array Value)
    (h : w.heap[B]? = some (.cells old t (0, 0))) (hl : o + cs.size ≤ old.size) (hn : old.toList.take o ++ cs.toList ++ old.toList.drop (o + cs.size) = new.toList)
    (hi : (P.info? ty).map (·.size) = some cs.size) (h1 : cs.toList.all (·.oneCell') = true)
    (hk : ∀ w', w'.heap[B]? = some (.cells new t (0, 0)) → Only B w w' → K (a.put op.dst undef) w') : op.wp P a w K Q := by
  have hr := run_store_val (P := P) w B o ty t val cs new old hc h hl hn hi h1
  unfold Oper.wp execOp
  simp only [ho, hx, hy, Sem.run_bind, hr, Result.andThen_ok]
  exact hk _ (setRow_heap w B old new t _ h) (only_setRow w B new)
theorem wpList_store_val {P : Program} {ops : Array Oper} {rest : List Oper} {op : Oper} {a : Act} {w : World} {Q : Exit → Act → World → Prop} (hgd : op.guard = none) (ty : TypeId) (x y : Operand) (ho : op.op = .store ty x y)
    (B o : Nat) (val : Value) (cs new : Array Value) (hx : a.eval x = .pointer (some ⟨B, o, none⟩)) (hy : a.eval y = val) (hc : val.cells = cs) (t : TypeId) (old : Array Value)
    (h : w.heap[B]? = some (.cells old t (0, 0))) (hl : o + cs.size ≤ old.size) (hn : old.toList.take o ++ cs.toList ++ old.toList.drop (o + cs.size) = new.toList)
    (hi : (P.info? ty).map (·.size) = some cs.size) (h1 : cs.toList.all (·.oneCell') = true)
    (hk : ∀ w', w'.heap[B]? = some (.cells new t (0, 0)) → Only B w w' → wpList P ops Q rest (a.put op.dst undef) w') : wpList P ops Q (op :: rest) a w :=
  wpList_plain hgd fun K hK => wp_store_val ty x y ho B o val cs new hx hy hc t old h hl hn hi h1 fun w' a1 a2 => hK _ _ (hk w' a1 a2)
def encL (p : SlI) : List Value := [.int .i64 p.st, .int .u32 p.k.s, .int .u32 p.k.d, .int .u16 p.k.p, .int .u16 p.k.q, .int .u8 p.k.r, .slice p.v.ad p.v.n p.v.cap]
def flatL : List (SlI) → List Value
  | [] => []
  | p :: l => encL p ++ flatL l
theorem flatL_length (l : List (SlI)) : (flatL l).length = l.length * 7 := by
  induction l with
  | nil => rfl
  | cons p l ih => simp only [flatL, encL, List.length_append, List.length_cons, List.length_nil, ih]; omega
theorem flatL_append (l k : List (SlI)) : flatL (l ++ k) = flatL l ++ flatL k := by
  induction l with
  | nil => rfl
  | cons p l ih => simp only [flatL, List.cons_append, ih, List.append_assoc]
theorem flatL_at : ∀ (l : List (SlI)) (i : Nat) (h : i < l.length) (j : Nat) (hj : j < 7), (flatL l)[i * 7 + j]? = (encL (l[i]'h))[j]?
  | p :: l, 0, _, j, hj => by
    rw [Nat.zero_mul, Nat.zero_add]
    exact List.getElem?_append_left (by simp [encL]; omega)
  | p :: l, i + 1, h, j, hj => by
    have := flatL_at l i (by simpa using h) j hj
    show (encL p ++ flatL l)[(i + 1) * 7 + j]? = _
    rw [List.getElem?_append_right (by simp [encL]; omega), show (i + 1) * 7 + j - (encL p).length = i * 7 + j by simp [encL]; omega]
    exact this
theorem infoL : (Tryz.prog.info? 157).map (fun i => (i.zero, i.size, i.bytes)) = some (some (.agg #[.int .i64 0, .int .u32 0, .int .u32 0, .int .u16 0, .int .u16 0, .int .u8 0, .slice none 0 0]), 7, 48) := by kernel_rfl
/-- The row v of w holds the list. -/
def RowL (w : World) (base : Nat) (v : Value) (l : List (SlI)) : Prop := w.ownsRow base 157 7 v l.length (flatL l)
theorem RowL.base {w : World} {b b' : Nat} {v : Value} {l : List (SlI)} (h : RowL w b v l) (hb : b' ≤ b) : RowL w b' v l := by
  refine ⟨h.1, ?_⟩
  rcases h.2 with h2 | ⟨g, cap, cur, hv, hg, r⟩
  · exact .inl h2
  · exact .inr ⟨g, cap, cur, hv, by omega, r⟩
theorem RowL.on {w w1 : World} {b : Nat} {v : Value} {l : List (SlI)} (h : RowL w b v l) (hb : Below w.heap.size w w1) : RowL w1 b v l := by
  refine ⟨h.1, ?_⟩
  rcases h.2 with h2 | ⟨g, cap, cur, hv, hg, hh, r⟩
  · exact .inl h2
  · exact .inr ⟨g, cap, cur, hv, hg, by rw [hb.block g (Array.getElem?_eq_some_iff.1 hh).1]; exact hh, r⟩
theorem RowL.alloc {w : World} {b : Nat} {v : Value} {l : List (SlI)} (h : RowL w b v l) (o : Obj) : RowL (w.alloc o) b v l := World.ownsRow.alloc h o
theorem RowL.drew {w : World} {b : Nat} {v : Value} {l : List (SlI)} (h : RowL w b v l) : RowL w.drew b v l := h
theorem RowL.nil (w : World) (b : Nat) : RowL w b (.slice none 0 0) [] := World.ownsRow_nil w b _ _
theorem RowL.one (w : World) (b : Nat) (p : SlI) (hb : b ≤ w.heap.size) : RowL (w.alloc (.cells #[.int .i64 p.st, .int .u32 p.k.s, .int .u32 p.k.d, .int .u16 p.k.p, .int .u16 p.k.q, .int .u8 p.k.r, .slice p.v.ad p.v.n p.v.cap] 157)) b (.slice (some ⟨w.heap.size, 0, none⟩) 1 1) [p] :=
  World.ownsRow_lit w #[.int .i64 p.st, .int .u32 p.k.s, .int .u32 p.k.d, .int .u16 p.k.p, .int .u16 p.k.q, .int .u8 p.k.r, .slice p.v.ad p.v.n p.v.cap] 1 hb (by simp [maxLen]) rfl
theorem RowL.lt {w : World} {b : Nat} {v : Value} {l : List (SlI)} (h : RowL w b v l) : ∀ k, v.ownBlock = some k → b ≤ k ∧ k < w.heap.size := World.ownsRow.lt h
theorem RowL.put {w : World} {b : Nat} {v : Value} {l : List (SlI)} (h : RowL w b v l) {g i : Nat} (hg : some g ≠ v.ownBlock) (u : Value) : RowL (w.setCell ⟨g, i, none⟩ u) b v l := by
  refine ⟨h.1, ?_⟩
  rcases h.2 with h2 | ⟨g', cap, cur, hv, hb, hh, r⟩
  · exact .inl h2
  · exact .inr ⟨g', cap, cur, hv, hb, by rw [Below.heap_setCell _ _ _ _ (by intro e; apply hg; rw [hv]; simp [Value.ownBlock, e])]; exact hh, r⟩
/-- What a row looks like. -/
theorem RowL.form {w : World} {b : Nat} {v : Value} {l : List (SlI)} (h : RowL w b v l) :
    ∃ (ad : Option Addr) (cap : Nat), v = .slice ad l.length cap ∧ l.length ≤ cap ∧ (0 < l.length → ∃ g, ad = some ⟨g, 0, none⟩ ∧ b ≤ g ∧ g < w.heap.size ∧ ∀ k (hk : k < l.length) j, j < 7 → w.cell? ⟨g, k * 7 + j, none⟩ = (encL (l[k]'hk))[j]?) := by
  rcases h.2 with ⟨hv, hn⟩ | ⟨g, cap, cur, hv, hb, hg, hcap, r⟩
  · exact ⟨none, 0, by rw [hv, hn], by omega, fun h0 => by omega⟩
  · subst hv
    refine ⟨_, cap, rfl, hcap, fun _ => ⟨g, rfl, hb, (Array.getElem?_eq_some_iff.1 hg).1, fun k hk j hj => ?_⟩⟩
    have h' : w.ownsRow b 157 7 (.slice (some ⟨g, 0, none⟩) l.length cap) l.length (flatL l) := h
    rw [h'.cellAt (k * 7 + j) (by omega), flatL_at l k hk j hj]
theorem RowL.frozen {w : World} {b g cap n : Nat} {l : List (SlI)} (h : RowL w b (.slice (some ⟨g, 0, none⟩) n cap) l) (j : Nat) : w.frozen? ⟨g, j, none⟩ = false := by
  rcases h.2 with ⟨hv, _⟩ | ⟨g', cap', cur, hv, hb, hg, r⟩
  · cases hv
  · cases hv; simp [World.frozen?, hg]

/-- The slice v of w reads as the list of rules. -/
def SrcL (w : World) (v : Value) (l : List SlI) : Prop :=
  ∃ (ad : Option Addr) (cap : Nat), v = .slice ad l.length cap ∧ (l.length ≤ cap ∧ (ad = none → cap = 0)) ∧ (0 < l.length → ∃ g off, ad = some ⟨g, off, none⟩ ∧ ∀ k (hk : k < l.length) j, j < 7 → w.cell? ⟨g, off + (k * 7 + j), none⟩ = (encL (l[k]'hk))[j]?)
theorem encL_some (R : SlI) {j : Nat} (h : j < 7) : ∃ v, (encL R)[j]? = some v := ⟨(encL R)[j]'(by simp [encL]; omega), List.getElem?_eq_getElem _⟩
theorem SrcL.keep {w w1 : World} {v : Value} {l : List SlI} (h : SrcL w v l) (hb : Below w.heap.size w w1) : SrcL w1 v l := by
  obtain ⟨ad, cap, rfl, hc, h2⟩ := h
  refine ⟨ad, cap, rfl, hc, fun h0 => ?_⟩
  obtain ⟨g, off, rfl, h3⟩ := h2 h0
  exact ⟨g, off, rfl, fun k hk j hj => by
    have := h3 k hk j hj
    obtain ⟨u, hu⟩ := encL_some (l[k]'hk) hj
    rw [hb.cell (World.block_lt_of_cell? w _ (this.trans hu))]; exact this⟩
/-- A source whose block stays. -/
theorem SrcL.stay {w w1 : World} {v : Value} {l : List SlI} (h : SrcL w v l) (hb : ∀ k, v.ownBlock = some k → k < w.heap.size → w1.heap[k]? = w.heap[k]?) : SrcL w1 v l := by
  obtain ⟨ad, cap, rfl, hc, h2⟩ := h
  refine ⟨ad, cap, rfl, hc, fun h0 => ?_⟩
  obtain ⟨g, off, rfl, h3⟩ := h2 h0
  exact ⟨g, off, rfl, fun k hk j hj => by
    have := h3 k hk j hj
    obtain ⟨u, hu⟩ := encL_some (l[k]'hk) hj
    have hlt := World.block_lt_of_cell? w _ (this.trans hu)
    rw [World.cell?_of_block (w := w) (a := ⟨g, off + (k * 7 + j), none⟩) (hb g rfl hlt)]; exact this⟩
theorem RowL.src {w : World} {b : Nat} {v : Value} {l : List SlI} (h : RowL w b v l) : SrcL w v l := by
  obtain ⟨ad, cap, hv, hc, h2⟩ := h.form
  refine ⟨ad, cap, hv, ⟨hc, fun e => ?_⟩, fun h0 => ?_⟩
  · subst e
    rcases h.2 with ⟨hv', _⟩ | ⟨g, cap', cur, hv', _⟩
    · rw [hv] at hv'; injection hv'
    · rw [hv] at hv'; cases hv'
  obtain ⟨g, e, _, _, h3⟩ := h2 h0
  exact ⟨g, 0, e, fun k hk j hj => by rw [Nat.zero_add]; exact h3 k hk j hj⟩
theorem SrcL.flat {w : World} {g off n cap : Nat} {l : List SlI} (h : SrcL w (.slice (some ⟨g, off, none⟩) n cap) l) : ∀ j u, (flatL l)[j]? = some u → w.cell? ((⟨g, off, none⟩ : Addr).add j) = some u := by
  intro j u hu
  obtain ⟨ad, c, e, hc, h2⟩ := h
  cases e
  have hj : j < (flatL l).length := (List.getElem?_eq_some_iff.1 hu).1
  rw [flatL_length] at hj
  obtain ⟨g', off', e', h3⟩ := h2 (by omega)
  cases e'
  have hk : j / 7 < l.length := by omega
  have hm : j % 7 < 7 := Nat.mod_lt _ (by decide)
  have e1 : j / 7 * 7 + j % 7 = j := by omega
  have h4 := flatL_at l (j / 7) hk (j % 7) hm
  rw [e1] at h4
  have h5 := h3 (j / 7) hk (j % 7) hm
  rw [e1] at h5
  rw [Addr.add_lit, h5, ← h4]
  exact hu
theorem flatL_take (l : List SlI) (p : Nat) : (flatL l).take (p * 7) = flatL (l.take p) := by
  by_cases h : p ≤ l.length
  · have e := flatL_append (l.take p) (l.drop p)
    rw [List.take_append_drop] at e
    rw [e]
    have hl : (flatL (l.take p)).length = p * 7 := by rw [flatL_length, List.length_take]; congr 1; omega
    rw [List.take_append_of_le_length (by omega), List.take_of_length_le (by omega)]
  · rw [List.take_of_length_le (by rw [flatL_length]; omega), List.take_of_length_le (by omega)]
theorem flatL_drop (l : List SlI) (p : Nat) : (flatL l).drop (p * 7) = flatL (l.drop p) := by
  by_cases h : p ≤ l.length
  · have e := flatL_append (l.take p) (l.drop p)
    rw [List.take_append_drop] at e
    rw [e]
    have hl : (flatL (l.take p)).length = p * 7 := by rw [flatL_length, List.length_take]; congr 1; omega
    rw [← hl, List.drop_left]
  · rw [List.drop_eq_nil_of_le (by rw [flatL_length]; omega), List.drop_eq_nil_of_le (by omega)]; rfl
/-- A row with something in it. -/
theorem RowL.some {w : World} {b : Nat} {v : Value} {l : List SlI} (h : RowL w b v l) (h0 : 0 < l.length) : ∃ g cap, v = .slice (.some ⟨g, 0, none⟩) l.length cap ∧ l.length ≤ cap ∧ b ≤ g ∧ g < w.heap.size := by
  obtain ⟨ad, cap, hv, hc, h2⟩ := h.form
  obtain ⟨g, rfl, hb, hg, _⟩ := h2 h0
  exact ⟨g, cap, hv, hc, hb, hg⟩
/-- Rules laid over a row from a place on. -/
theorem RowL.over {w w' : World} {b g n cap : Nat} {l : List SlI} (h : RowL w b (.slice (.some ⟨g, 0, none⟩) n cap) l) (p : Nat) (k : List SlI) (hf : p + k.length ≤ n)
    (hw : ∀ cur, w.heap[g]? = .some (.cells cur 157 (0, 0)) → w'.heap[g]? = .some (.cells (cur.toList.take (p * 7) ++ flatL k ++ cur.toList.drop (p * 7 + (flatL k).length)).toArray 157 (0, 0))) :
    RowL w' b (.slice (.some ⟨g, 0, none⟩) n cap) (l.take p ++ k ++ l.drop (p + k.length)) := by
  have hn : l.length = n := by
    rcases h.2 with ⟨hv, _⟩ | ⟨g', cap', cur, hv, _⟩
    · cases hv
    · cases hv; rfl
  subst hn
  have hlen : (l.take p ++ k ++ l.drop (p + k.length)).length = l.length := by simp; omega
  rcases h.2 with ⟨hv, _⟩ | ⟨g', cap', cur, hv, hb, hg, hc, hm, hs, ht⟩
  · cases hv
  · cases hv
    refine ⟨by rw [hlen, flatL_length, hlen], .inr ⟨g, cap, _, by rw [hlen], hb, hw cur hg, by rw [hlen]; exact hc, hm, ?_, ?_⟩⟩
    · rw [flatL_length]
      simp only [List.size_toArray, List.length_append, List.length_take, List.length_drop, Array.length_toList, flatL_length]
      omega
    · rw [hlen]
      have e1 : cur.toList.take (p * 7) = flatL (l.take p) := by
        rw [← flatL_take, ← ht, List.take_take]; congr 1; omega
      have e2 : (cur.toList.drop (p * 7 + (flatL k).length)).take (l.length * 7 - (p * 7 + (flatL k).length)) = flatL (l.drop (p + k.length)) := by
        rw [← flatL_drop, ← ht, List.drop_take, flatL_length]
        rw [show p * 7 + k.length * 7 = (p + k.length) * 7 by omega]
      have l1 : (flatL (l.take p)).length = p * 7 := by rw [flatL_length, List.length_take]; omega
      rw [e1, flatL_append, flatL_append, ← e2]
      have l2 := flatL_length k
      rw [List.take_append, List.take_of_length_le (by rw [List.length_append, l1, l2]; omega)]
      congr 2
      rw [List.length_append, l1]
/-- A rule stored into an owned row. -/
theorem wp_storeL {o : Oper} {a : Act} {w : World} {K : Act → World → Prop} {Q : Exit → Act → World → Prop} (x y : Operand) (ho : o.op = .store 157 x y)
    (b g n cap : Nat) (l : List SlI) (hr : RowL w b (.slice (some ⟨g, 0, none⟩) n cap) l) (p : Nat) (hp : p < n) (R : SlI) (hx : a.eval x = .pointer (some ⟨g, p * 7, none⟩)) (hy : a.eval y = .agg #[.int .i64 R.st, .int .u32 R.k.s, .int .u32 R.k.d, .int .u16 R.k.p, .int .u16 R.k.q, .int .u8 R.k.r, .slice R.v.ad R.v.n R.v.cap])
    (hK : ∀ w', RowL w' b (.slice (some ⟨g, 0, none⟩) n cap) (l.take p ++ [R] ++ l.drop (p + [R].length)) → w.grownBy w' (some g) → K (a.put o.dst undef) w') : o.wp Tryz.prog a w K Q := by
  obtain ⟨cur, hg, hcs⟩ : ∃ cur, w.heap[g]? = some (.cells cur 157 (0, 0)) ∧ cur.size = cap * 7 ∧ n ≤ cap := by
    rcases hr.2 with ⟨hv, _⟩ | ⟨g', cap', cur, hv, hb, hg, hc, hm, hs, ht⟩
    · cases hv
    · cases hv; exact ⟨cur, hg, hs, by omega⟩
  refine wp_store_blk 157 x y ho g (p * 7) (encL R).toArray (cur.toList.take (p * 7) ++ encL R ++ cur.toList.drop (p * 7 + (encL R).toArray.size)).toArray hx hy 157 cur hg (by simp [encL]; omega) (by simp) (by kernel_rfl) (by simp [encL, Value.oneCell']) ?_
  intro w' h1 h2
  have hf : flatL [R] = encL R := by simp [flatL]
  refine hK w' (hr.over p [R] (by simp; omega) (fun cur' hg' => ?_)) ⟨h2.os, h2.tape, h2.output, Nat.le_of_eq h2.size.symm, fun k _ hk => h2.block k (fun e => hk (by rw [e]))⟩
  rw [hg] at hg'
  cases hg'
  rw [hf]
  simpa using h1

end Go.Proofs.YtfpmljgmfapoiaaGreat.Hx
