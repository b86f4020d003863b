/-
  PkAB: TbPlain, one behind the other (tools/pack.py).
-/
import Derived.Test.YtgokmkholjfhbaaGreatPkAA
set_option linter.unusedVariables false
set_option linter.unusedSimpArgs false
namespace Go.Proofs.YtgokmkholjfhbaaGreat
def fndK (id : Int) : List Ru → Nat → Int
 | [], _ => -1
 | R :: l, k => if R.i = id then (k : Int) else fndK id l (k + 1)
def fnd (l : List Ru) (id : Int) : Int := fndK id l 0
theorem drop_cons {α : Type} {l : List α} {k : Nat} (h : k < l.length) : l.drop k = l[k] :: l.drop (k + 1) := List.drop_eq_getElem_cons h
theorem fndK_hit {l : List Ru} {k : Nat} {id : Int} (h : k < l.length) (e : (l[k]'h).i = id) : fndK id (l.drop k) k = (k : Int) := by
 rw [drop_cons h, fndK, if_pos e]
theorem fndK_no {l : List Ru} {k : Nat} {id : Int} (h : k < l.length) (e : ¬ (l[k]'h).i = id) : fndK id (l.drop k) k = fndK id (l.drop (k + 1)) (k + 1) := by
 rw [drop_cons h, fndK, if_neg e]
theorem fndK_end {l : List Ru} {k : Nat} {id : Int} (h : l.length ≤ k) : fndK id (l.drop k) k = -1 := by
 rw [List.drop_eq_nil_of_le h, fndK]
theorem fndK_range (id : Int) : ∀ (l : List Ru) (k : Nat), fndK id l k = -1 ∨ ((k : Int) ≤ fndK id l k ∧ fndK id l k < k + l.length)
 | [], k => .inl rfl
 | R :: l, k => by
  unfold fndK
  split
  ·right; simp only [List.length_cons]; omega
  ·have := fndK_range id l (k + 1)
   simp only [List.length_cons]
   omega
theorem fnd_range (l : List Ru) (id : Int) : fnd l id = -1 ∨ (0 ≤ fnd l id ∧ fnd l id < l.length) := by
 have := fndK_range id l 0
 unfold fnd
 omega
theorem fndK_none {id : Int} : ∀ (l : List Ru) (k : Nat), fndK id l k = -1 ↔ ∀ R ∈ l, R.i ≠ id
 | [], k => by simp [fndK]
 | R :: l, k => by
  unfold fndK
  have ih := fndK_none (id := id) l (k + 1)
  by_cases h : R.i = id
  ·rw [if_pos h]; simp [h]
  ·rw [if_neg h, ih]; simp [h]
theorem fnd_none {l : List Ru} {id : Int} : fnd l id = -1 ↔ ∀ R ∈ l, R.i ≠ id := fndK_none l 0
theorem fndK_at {id : Int} : ∀ (l : List Ru) (b k : Nat) (h : k < l.length), (l[k]'h).i = id → (∀ j (hj : j < k), (l[j]'(by omega)).i ≠ id) → fndK id l b = ((b + k : Nat) : Int)
 | R :: l, b, 0, h, e, hn => by
  unfold fndK; rw [if_pos (by simpa using e)]; rfl
 | R :: l, b, k + 1, h, e, hn => by
  unfold fndK
  rw [if_neg (by simpa using hn 0 (by omega)), fndK_at l (b + 1) k (by simpa using h) (by simpa using e) (fun j hj => by simpa using hn (j + 1) (by omega))]
  congr 1; omega
def matK (h : Hd) : List Ru → Nat → Int
 | [], _ => -1
 | R :: l, k => if matchR R h = true then (k : Int) else matK h l (k + 1)
def mat (l : List Ru) (h : Hd) : Int := matK h l 0
theorem matK_hit {l : List Ru} {k : Nat} {h : Hd} (hk : k < l.length) (e : matchR (l[k]'hk) h = true) : matK h (l.drop k) k = (k : Int) := by
 rw [drop_cons hk, matK, if_pos e]
theorem matK_no {l : List Ru} {k : Nat} {h : Hd} (hk : k < l.length) (e : matchR (l[k]'hk) h = false) : matK h (l.drop k) k = matK h (l.drop (k + 1)) (k + 1) := by
 rw [drop_cons hk, matK, if_neg (by simp [e])]
theorem matK_end {l : List Ru} {k : Nat} {h : Hd} (hk : l.length ≤ k) : matK h (l.drop k) k = -1 := by
 rw [List.drop_eq_nil_of_le hk, matK]
def vdH (k : Int) : Bool := decide (0 ≤ k)
def vdI (l : List Ru) (k : Int) : Int := if 0 ≤ k then (l.getD k.toNat ⟨0, 0, 0, 0, 0, (0, 0), (0, 0), (0, 0), 0⟩).i else 0
def vdA (A : Int) (l : List Ru) (k : Int) : Int := if 0 ≤ k then (l.getD k.toNat ⟨0, 0, 0, 0, 0, (0, 0), (0, 0), (0, 0), 0⟩).act else A
theorem getD_at {l : List Ru} {k : Nat} (h : k < l.length) (z : Ru) : l.getD k z = l[k] := by simp [h]
theorem vdI_at {l : List Ru} {k : Nat} (h : k < l.length) : vdI l (k : Int) = (l[k]'h).i := by unfold vdI; rw [if_pos (by omega), Int.toNat_natCast, getD_at h]
theorem vdA_at {A : Int} {l : List Ru} {k : Nat} (h : k < l.length) : vdA A l (k : Int) = (l[k]'h).act := by unfold vdA; rw [if_pos (by omega), Int.toNat_natCast, getD_at h]
def joinE (l : List Ru) (R : Ru) : Int := if (errs R).1 = 0 then (if 0 ≤ fnd l R.i then 111 else 0) else (errs R).1
def insE (l : List Ru) (M p : Int) (R : Ru) : Int := if joinE l R = 0 then (if 0 ≤ p ∧ p ≤ l.length then (if M ≤ l.length then 113 else 0) else 112) else joinE l R
def putL (l : List Ru) (p : Nat) (R : Ru) : List Ru := l.take p ++ R :: l.drop p
def insL (l : List Ru) (M p : Int) (R : Ru) : List Ru := if insE l M p R = 0 then putL l p.toNat R else l
def delE (l : List Ru) (id : Int) : Int := if 0 ≤ fnd l id then 0 else 114
def outL (l : List Ru) (k : Nat) : List Ru := l.take k ++ l.drop (k + 1)
def delL (l : List Ru) (id : Int) : List Ru := if 0 ≤ fnd l id then outL l (fnd l id).toNat else l
def setK (M : Int) : List Ru → List Ru → Int
 | _, [] => 0
 | pre, R :: t => if joinE pre R = 0 then (if M ≤ pre.length then 113 else setK M (pre ++ [R]) t) else joinE pre R
def setE (l : List Ru) (M : Int) : Int := setK M [] l
theorem take_snoc {l : List Ru} {k : Nat} (h : k < l.length) : l.take k ++ [l[k]] = l.take (k + 1) := by rw [List.take_succ_eq_append_getElem h]
theorem setK_bad {l : List Ru} {M : Int} {k : Nat} (h : k < l.length) (e : joinE (l.take k) l[k] ≠ 0) : setK M (l.take k) (l.drop k) = joinE (l.take k) l[k] := by
 rw [drop_cons h, setK, if_neg e]
theorem setK_full {l : List Ru} {M : Int} {k : Nat} (h : k < l.length) (e : joinE (l.take k) l[k] = 0) (hm : M ≤ (k : Int)) : setK M (l.take k) (l.drop k) = 113 := by
 rw [drop_cons h, setK, if_pos e, if_pos (by rw [List.length_take]; omega)]
theorem setK_next {l : List Ru} {M : Int} {k : Nat} (h : k < l.length) (e : joinE (l.take k) l[k] = 0) (hm : (k : Int) < M) : setK M (l.take k) (l.drop k) = setK M (l.take (k + 1)) (l.drop (k + 1)) := by
 rw [drop_cons h, setK, if_pos e, if_neg (by rw [List.length_take]; omega), take_snoc h]
theorem setK_end {l : List Ru} {M : Int} {k : Nat} (h : l.length ≤ k) : setK M (l.take k) (l.drop k) = 0 := by
 rw [List.drop_eq_nil_of_le h, setK]
theorem joinE_ok {l : List Ru} {R : Ru} : joinE l R = 0 ↔ (errs R).1 = 0 ∧ fnd l R.i = -1 := by
 unfold joinE
 have := fnd_range l R.i
 by_cases h : (errs R).1 = 0
 ·rw [if_pos h]
  by_cases h2 : 0 ≤ fnd l R.i
  ·rw [if_pos h2]; simp; omega
  ·rw [if_neg h2]; simp; exact ⟨h, by omega⟩
 ·rw [if_neg h]; simp [h]
structure OkL (M : Int) (l : List Ru) : Prop where
 may : ∀ k (h : k < l.length), okR (l[k]'h) = true
 one : ∀ k (h : k < l.length), fnd (l.take k) (l[k]'h).i = -1
 few : l = [] ∨ (l.length : Int) ≤ M
theorem setK_ok (M : Int) : ∀ (t pre : List Ru), setK M pre t = 0 → ∀ k (h : k < t.length), okR (t[k]'h) = true ∧ fnd (pre ++ t.take k) (t[k]'h).i = -1 ∧ ((pre.length + k : Nat) : Int) < M
 | [], pre, _, k, h => by simp at h
 | R :: t, pre, e, k, h => by
  unfold setK at e
  by_cases h1 : joinE pre R = 0
  ·rw [if_pos h1] at e
   by_cases h2 : M ≤ pre.length
   ·rw [if_pos h2] at e; exact absurd e (by decide)
   ·rw [if_neg h2] at e
    cases k with
    | zero =>
     obtain ⟨j1, j2⟩ := joinE_ok.1 h1
     exact ⟨(okR_err R).2 j1, by simpa using j2, by simp; omega⟩
    | succ k =>
     have ih := setK_ok M t (pre ++ [R]) e k (by simpa using h)
     simp only [List.length_append, List.length_cons, List.length_nil, List.append_assoc, List.singleton_append] at ih
     exact ⟨by simpa using ih.1, by simpa using ih.2.1, by have := ih.2.2; omega⟩
  ·rw [if_neg h1] at e; exact absurd e h1
theorem setE_ok {l : List Ru} {M : Int} (h : setE l M = 0) : OkL M l := by
 have := setK_ok M l [] h
 refine ⟨fun k hk => (this k hk).1, fun k hk => by simpa using (this k hk).2.1, ?_⟩
 cases l with
 | nil => exact .inl rfl
 | cons R t => right; have := (this t.length (by simp)).2.2; simp at this ⊢; omega
theorem OkL.ne {M : Int} {l : List Ru} (o : OkL M l) {j k : Nat} (hj : j < k) (hk : k < l.length) : (l[j]'(by omega)).i ≠ (l[k]'hk).i := by
 have := (fnd_none.1 (o.one k hk)) (l[j]'(by omega)) (by
  rw [List.mem_take_iff_getElem]
  exact ⟨j, by omega, rfl⟩)
 exact this
theorem OkL.fnd {M : Int} {l : List Ru} (o : OkL M l) {k : Nat} (hk : k < l.length) : fnd l (l[k]'hk).i = (k : Int) := by
 have := fndK_at (id := (l[k]'hk).i) l 0 k hk rfl (fun j hj => o.ne hj hk)
 unfold Go.Proofs.YtgokmkholjfhbaaGreat.fnd
 rw [this, Nat.zero_add]
theorem OkL.gone {M : Int} {l : List Ru} (o : OkL M l) {k : Nat} (hk : k < l.length) : Go.Proofs.YtgokmkholjfhbaaGreat.fnd (outL l k) (l[k]'hk).i = -1 := by
 rw [fnd_none]
 intro R hR
 unfold outL at hR
 rw [List.mem_append] at hR
 rcases hR with hR | hR
 ·rw [List.mem_take_iff_getElem] at hR
  obtain ⟨j, hj, rfl⟩ := hR
  exact o.ne (by omega) hk
 ·rw [List.mem_drop_iff_getElem] at hR
  obtain ⟨j, hj, rfl⟩ := hR
  exact fun e => o.ne (j := k) (k := k + 1 + j) (by omega) (by omega) (by simpa [Nat.add_comm, Nat.add_left_comm, Nat.add_assoc] using e.symm)
end Go.Proofs.YtgokmkholjfhbaaGreat
