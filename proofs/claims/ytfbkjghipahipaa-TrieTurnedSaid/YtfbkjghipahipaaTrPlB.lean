/-
  Putting a key into such a tree, and taking one out: what becomes of the tree, of the free places, of the numbers. No program is named here.
-/
import Derived.Test.YtfbkjghipahipaaTrPlain
namespace Go.Proofs.Ytfbkjghipahipaa
set_option linter.unusedVariables false
set_option linter.unusedSimpArgs false

/-- The nodes, the first free place, how many nodes there are. -/
structure Ar where
  A : List Nd
  f : Nat
  c : Nat
/-- A node of noughts. -/
def tak (s : Ar) : Ar × Nat := if s.f = 0 then (⟨s.A ++ [ndZ], 0, s.c + 1⟩, s.A.length + 1) else (⟨s.A.set (s.f - 1) ndZ, (gt s.A s.f).a, s.c + 1⟩, s.f)
def tkr (s : Ar) (r : Nat) : Ar × Nat := if r = 0 then tak s else (s, r)
/-- The bit that chooses below a node that is h bits above the longest keys. -/
def sid (k h : Nat) : Nat := k / 2 ^ (h - 1) % 2
def kidA (d : Nd) (s : Nat) : Nat := if s = 0 then d.a else d.b
def setK (d : Nd) (s m : Nat) : Nd := if s = 0 then { d with a := m } else { d with b := m }
/-- d: how many bits are left of the key. -/
def grw : Nat → Nat → Ar → Nat → En → Ar × Nat
  | 0, h, s, r, x =>
    (⟨(tkr s r).1.A.set ((tkr s r).2 - 1) { gt (tkr s r).1.A (tkr s r).2 with h := true, v := x.v }, (tkr s r).1.f, (tkr s r).1.c⟩, (tkr s r).2)
  | d + 1, h, s, r, x =>
    let g := grw d (h - 1) (tkr s r).1 (kidA (gt (tkr s r).1.A (tkr s r).2) (sid x.k h)) x
    (⟨g.1.A.set ((tkr s r).2 - 1) (setK (gt (tkr s r).1.A (tkr s r).2) (sid x.k h) g.2), g.1.f, g.1.c⟩, (tkr s r).2)
def isZ (d : Nd) : Bool := d.a == 0 && d.b == 0 && !d.h && d.v == 0
def fin (s : Ar) (r : Nat) (x : Nd) : Ar × Nat := if isZ x then (⟨s.A.set (r - 1) ⟨s.f, 0, false, 0⟩, r, s.c - 1⟩, 0) else (⟨s.A.set (r - 1) x, s.f, s.c⟩, r)
def shr : Nat → Nat → Ar → Nat → Nat → Ar × Nat
  | 0, h, s, r, k => fin s r { gt s.A r with h := false, v := 0 }
  | d + 1, h, s, r, k =>
    let g := shr d (h - 1) s (kidA (gt s.A r) (sid k h)) k
    fin g.1 r (setK (gt s.A r) (sid k h) g.2)
/-- The nodes on the way to a key: their lengths, their numbers. -/
def pth (A : List Nd) : Nat → Nat → Nat → Nat → Nat → List (Nat × Nat)
  | 0, h, r, k, n => if r = 0 then [] else [(n, r)]
  | d + 1, h, r, k, n => if r = 0 then [] else (n, r) :: pth A d (h - 1) (kidA (gt A r) (sid k h)) k (n + 1)
theorem pth_z (A : List Nd) (d h k n : Nat) : pth A d h 0 k n = [] := by cases d <;> simp [pth]
theorem pth_le (A : List Nd) : ∀ (d h r k n : Nat), (pth A d h r k n).length ≤ d + 1
  | 0, h, r, k, n => by simp only [pth]; split <;> simp
  | d + 1, h, r, k, n => by
    simp only [pth]
    split
    · simp
    · have := pth_le A d (h - 1) (kidA (gt A r) (sid k h)) k (n + 1)
      simp only [List.length_cons]; omega
theorem pth_frm {A A' : List Nd} : ∀ {d h r k n : Nat}, d ≤ h → (∀ p, 1 ≤ p → 0 < occ A h r p → gt A' p = gt A p) → pth A' d h r k n = pth A d h r k n
  | 0, h, r, k, n, hd, hp => by simp [pth]
  | d + 1, h, r, k, n, hd, hp => by
    obtain ⟨h, rfl⟩ : ∃ h', h = h' + 1 := ⟨h - 1, by omega⟩
    by_cases h0 : r = 0
    · subst h0; rw [pth_z, pth_z]
    · have e := hp r (by omega) (by simp only [occ]; rw [if_neg h0]; simp; omega)
      simp only [pth, Nat.add_sub_cancel]
      rw [e, pth_frm (d := d) (h := h) (by omega) (fun p h1 hq => hp p h1 (by
        simp only [occ]; rw [if_neg h0]
        unfold kidA at hq
        split at hq <;> omega))]
/-- What holds of a tree beside the free places. -/
structure Fit (A : List Nd) (f : Nat) (F : List Nat) (h r : Nat) : Prop where
  ch : chn A f F
  un : ∀ p, occ A h r p + F.count p ≤ 1
/-- Where a node is missing it is made. -/
theorem tkr_ok {A : List Nd} {f c : Nat} {F : List Nat} {h r : Nat} (o : okT A h r) (ft : Fit A f F h r) :
    ∃ F', opT (tkr ⟨A, f, c⟩ r).1.A h (tkr ⟨A, f, c⟩ r).2 ∧ chn (tkr ⟨A, f, c⟩ r).1.A (tkr ⟨A, f, c⟩ r).1.f F' ∧ A.length ≤ (tkr ⟨A, f, c⟩ r).1.A.length ∧
      (∀ p, 1 ≤ p → p ≤ A.length → F.count p = 0 → gt (tkr ⟨A, f, c⟩ r).1.A p = gt A p) ∧
      (∀ p, occ (tkr ⟨A, f, c⟩ r).1.A h (tkr ⟨A, f, c⟩ r).2 p + F'.count p = occ A h r p + F.count p + (if A.length < p ∧ p ≤ (tkr ⟨A, f, c⟩ r).1.A.length then 1 else 0)) ∧
      (A.length < (tkr ⟨A, f, c⟩ r).1.A.length → F' = []) ∧
      num (tkr ⟨A, f, c⟩ r).1.A h (tkr ⟨A, f, c⟩ r).2 = num A h r + (if r = 0 then 1 else 0) ∧
      F'.length + (if r = 0 then 1 else 0) + A.length = F.length + (tkr ⟨A, f, c⟩ r).1.A.length ∧
      (tkr ⟨A, f, c⟩ r).1.c = c + (if r = 0 then 1 else 0) ∧
      (∀ W k, tel W (tkr ⟨A, f, c⟩ r).1.A h (tkr ⟨A, f, c⟩ r).2 k = tel W A h r k) ∧
      (∀ d k n, d ≤ h → r ≠ 0 → pth (tkr ⟨A, f, c⟩ r).1.A d h (tkr ⟨A, f, c⟩ r).2 k n = pth A d h r k n) ∧
      (r = 0 → gt (tkr ⟨A, f, c⟩ r).1.A (tkr ⟨A, f, c⟩ r).2 = ndZ) := by
  have zt : ∀ (A' : List Nd) (h r' : Nat), r' ≠ 0 → r' ≤ A'.length → gt A' r' = ndZ → opT A' h r' ∧ (∀ p, occ A' h r' p = if r' = p then 1 else 0) ∧ num A' h r' = 1 ∧ ∀ W k, tel W A' h r' k = [] := by
    intro A' h r' h0 hl e
    cases h with
    | zero => exact ⟨⟨h0, hl, by rw [e]; rfl, by rw [e]; rfl, fun _ => by rw [e]; rfl⟩, fun p => by simp [occ, h0], by simp [num, h0], fun W k => by simp [tel, h0, e, ownE, ndZ]⟩
    | succ h => exact ⟨⟨h0, hl, by rw [e]; exact okT_z _ _, by rw [e]; exact okT_z _ _, fun _ => by rw [e]; rfl⟩, fun p => by simp [occ, h0, e, ndZ, occ_z], by simp [num, h0, e, ndZ, num_z], fun W k => by simp [tel, h0, e, ownE, ndZ, tel_z]⟩
  by_cases h0 : r = 0
  · subst h0
    unfold tkr tak
    rw [if_pos rfl]
    have hc := ft.ch
    by_cases hf : f = 0
    · rw [if_pos hf]
      have hF : F = [] := by
        cases F with
        | nil => rfl
        | cons p F => obtain ⟨h1, h2, _⟩ := hc; omega
      subst hF
      obtain ⟨z1, z2, z3, z4⟩ := zt (A ++ [ndZ]) h (A.length + 1) (by omega) (by simp) gt_last
      refine ⟨[], z1, rfl, by simp, fun p h1 h2 _ => gt_app h1 h2, fun p => ?_, fun _ => rfl, by rw [z3, num_z]; simp, by simp; omega, rfl, fun W k => by rw [z4, tel_z], fun _ _ _ _ h => absurd rfl h, fun _ => gt_last⟩
      rw [z2, occ_z]
      simp only [List.length_append, List.length_cons, List.length_nil, List.count_nil]
      split <;> split <;> omega
    · rw [if_neg hf]
      dsimp only
      cases F with
      | nil => exact absurd hc hf
      | cons q F =>
        obtain ⟨h1, h2, h3, h4⟩ := hc
        subst h1
        have hl : (A.set (f - 1) ndZ).length = A.length := by simp
        have hcount : F.count f = 0 := by have := ft.un f; rw [List.count_cons] at this; simp at this; omega
        obtain ⟨z1, z2, z3, z4⟩ := zt (A.set (f - 1) ndZ) h f (by omega) (by omega) (gt_same h2 h3)
        refine ⟨F, z1, chn_frm (by omega) h4 (fun p h1 hq => gt_far h2 h3 h1 (fun e => by rw [e] at hq; omega)), by omega, fun p h1 h5 hq => gt_far h2 h3 h1 (fun e => by rw [e] at hq; simp at hq), fun p => ?_, fun e => by rw [hl] at e; omega, by rw [z3, num_z]; simp, by simp, rfl, fun W k => by rw [z4, tel_z], fun _ _ _ _ h => absurd rfl h, fun _ => gt_same h2 h3⟩
        rw [z2, occ_z, List.count_cons, hl]
        simp only [beq_iff_eq]
        split <;> split <;> omega
  · unfold tkr
    rw [if_neg h0]
    refine ⟨F, op_of_ok o h0, ft.ch, Nat.le_refl _, fun p _ _ _ => rfl, fun p => ?_, fun e => by simp only at e; omega, by simp [h0], by simp [h0], by simp [h0], fun _ _ => rfl, fun _ _ _ _ _ => rfl, fun e => absurd e h0⟩
    simp only
    split <;> omega
theorem sid_lt {k h : Nat} : sid k h = 0 ∨ sid k h = 1 := by unfold sid; omega
/-- Which half a word lies in. -/
theorem half {k key h : Nat} (h1 : key ≤ k) (h2 : k < key + 2 ^ (h + 1)) (hk : key % 2 ^ (h + 1) = 0) :
    (sid k (h + 1) = 0 ∧ k < key + 2 ^ h) ∨ (sid k (h + 1) = 1 ∧ key + 2 ^ h ≤ k) := by
  have hp : 2 ^ (h + 1) = 2 * 2 ^ h := by rw [Nat.pow_succ]; omega
  have hpos : 0 < 2 ^ h := Nat.two_pow_pos h
  obtain ⟨c, hc⟩ := Nat.dvd_of_mod_eq_zero hk
  unfold sid
  rw [Nat.add_sub_cancel]
  rw [hp] at h2 hc
  have e0 : key = (2 * c) * 2 ^ h := by rw [hc]; rw [Nat.mul_comm (2 * 2 ^ h) c, ← Nat.mul_assoc, Nat.mul_comm c 2]
  by_cases hlt : k < key + 2 ^ h
  · left
    refine ⟨?_, hlt⟩
    have : k / 2 ^ h = 2 * c := by
      apply Nat.div_eq_of_lt_le
      · rw [← e0]; exact h1
      · rw [Nat.succ_mul, ← e0]; exact hlt
    omega
  · right
    refine ⟨?_, by omega⟩
    have : k / 2 ^ h = 2 * c + 1 := by
      apply Nat.div_eq_of_lt_le
      · rw [Nat.succ_mul, ← e0]; omega
      · rw [Nat.succ_mul, Nat.succ_mul, ← e0]; omega
    omega
theorem mod_half {key h : Nat} (hk : key % 2 ^ (h + 1) = 0) : key % 2 ^ h = 0 ∧ (key + 2 ^ h) % 2 ^ h = 0 := by
  have hk1 : key % 2 ^ h = 0 := by
    obtain ⟨c, hc⟩ := Nat.dvd_of_mod_eq_zero hk
    rw [hc, Nat.pow_succ, Nat.mul_assoc]; simp
  exact ⟨hk1, by rw [Nat.add_mod_right]; exact hk1⟩
end Go.Proofs.Ytfbkjghipahipaa
