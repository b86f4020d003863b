/-
  PkAC: CtPl, one behind the other (tools/pack.py).
-/
import Derived.Test.YtgokmkholjfhbaaGreatPkAA
import Derived.Test.YtgokmkholjfhbaaGreatPkAB
set_option linter.unusedVariables false
set_option linter.unusedSimpArgs false
namespace Go.Proofs.YtgokmkholjfhbaaGreat
def hasY (X : Xb.Bx) (h : Hd) : Bool := Xb.hasX X h.s h.d h.p h.q h.r
def runY (a : Nat) (n : Int) : Nat × Nat := (a, a + (Pf.bk n.toNat - 1))
def boxY (R : Ru) : Xb.Bx := ⟨runY R.s R.sl, runY R.d R.dl, R.p, R.q, R.m⟩
def ctZ : Ru := ⟨0, 0, 0, 0, 0, (0, 0), (0, 0), (0, 0), 0⟩
def ruK (l : List Ru) (i : Nat) : Ru := l.getD i ctZ
theorem ruK_at {l : List Ru} {i : Nat} (h : i < l.length) : ruK l i = l[i] := by simp [ruK, h]
theorem ct_betw {a x n : Nat} (h : a % Pf.bk n = 0) : Pf.ct x n = a ↔ a ≤ x ∧ x ≤ a + (Pf.bk n - 1) := by
 have hp := Pf.bk_pos n
 have h1 := Pf.ct_add x n
 have h2 := Nat.mod_lt x hp
 constructor
 ·intro e; omega
 ·rintro ⟨e1, e2⟩
  have h3 := Pf.ct_mod x n
  generalize Pf.bk n = b at *
  obtain ⟨u, rfl⟩ : ∃ u, a = b * u := ⟨a / b, by have := Nat.div_add_mod a b; rw [h] at this; omega⟩
  obtain ⟨v, hv⟩ : ∃ v, Pf.ct x n = b * v := ⟨Pf.ct x n / b, by have := Nat.div_add_mod (Pf.ct x n) b; rw [h3] at this; omega⟩
  rw [hv] at h1 ⊢
  have l1 : b * v < b * (u + 1) := by rw [Nat.mul_add]; omega
  have l2 : b * u < b * (v + 1) := by rw [Nat.mul_add]; omega
  have m1 := Nat.lt_of_mul_lt_mul_left l1
  have m2 := Nat.lt_of_mul_lt_mul_left l2
  rw [show v = u by omega]
theorem hasI_runY {a : Nat} {n : Int} (h : Pf.chk a n = 0) (x : Nat) : Xb.hasI (runY a n) x = Pf.hasB a n x := by
 obtain ⟨m, rfl, hm, h0⟩ := Pf.chk_ok h
 rw [Pf.hasB_in h]
 unfold Xb.hasI runY
 simp only [Int.toNat_natCast]
 rw [decide_eq_decide]
 exact (ct_betw h0).symm
theorem okI_runY (a : Nat) (n : Int) : Xb.okI (runY a n) = true := decide_eq_true (Nat.le_add_right _ _)
theorem okY_box {R : Ru} (h : okR R = true) : Xb.okX (boxY R) = true := by
 obtain ⟨_, _, _, h4, h5, h6, _⟩ := (okR_iff R).1 h
 exact (Xb.okX_iff _).2 ⟨okI_runY _ _, okI_runY _ _, h4, h5, h6⟩
theorem hasY_box {R : Ru} (h : okR R = true) (x : Hd) : hasY (boxY R) x = matchR R x := by
 obtain ⟨_, h2, h3, _⟩ := (okR_iff R).1 h
 unfold hasY Xb.hasX matchR
 rw [okY_box h, h]
 show (_ && (Xb.hasI (runY R.s R.sl) x.s && Xb.hasI (runY R.d R.dl) x.d && _ && _ && _)) = _
 rw [hasI_runY h2, hasI_runY h3]
 rfl
theorem boxY_bd {R : Ru} (b : BdR R) (h : okR R = true) : Xb.BdX (boxY R) := by
 obtain ⟨b1, b2, b3, b4, b5, b6, b7, b8, _⟩ := b
 obtain ⟨_, h2, h3, _⟩ := (okR_iff R).1 h
 have key : ∀ {a : Nat} {n : Int}, a < 4294967296 → Pf.chk a n = 0 → (runY a n).2 < 4294967296 := by
  intro a n ha h
  obtain ⟨m, rfl, hm, h0⟩ := Pf.chk_ok h
  unfold runY
  simp only [Int.toNat_natCast]
  exact Pf.top_lt a m ha h0 hm
 exact ⟨b1, key b1 h2, b2, key b2 h3, b3, b4, b5, b6, b7, b8⟩
def fget (i : Nat) (X : Xb.Bx) : Nat × Nat := match i with
 | 0 => X.a
 | 1 => X.b
 | 2 => X.c
 | 3 => X.d
 | _ => X.m
def fset (i : Nat) (X : Xb.Bx) (t : Nat × Nat) : Xb.Bx := match i with
 | 0 => ⟨t, X.b, X.c, X.d, X.m⟩
 | 1 => ⟨X.a, t, X.c, X.d, X.m⟩
 | 2 => ⟨X.a, X.b, t, X.d, X.m⟩
 | 3 => ⟨X.a, X.b, X.c, t, X.m⟩
 | _ => ⟨X.a, X.b, X.c, X.d, t⟩
def hget (i : Nat) (h : Hd) : Nat := match i with
 | 0 => h.s
 | 1 => h.d
 | 2 => h.p
 | 3 => h.q
 | _ => h.r
def okF (i : Nat) (t : Nat × Nat) : Bool := if i < 4 then Xb.okI t else okM t.1 t.2
def hasF (i : Nat) (t : Nat × Nat) (x : Nat) : Bool := if i < 4 then Xb.hasI t x else hasM t.1 t.2 x
def topF (i : Nat) : Nat := if i < 2 then 4294967296 else if i < 4 then 65536 else 256
def bdF (i : Nat) (t : Nat × Nat) : Prop := t.1 < topF i ∧ t.2 < topF i
theorem fget_set (i : Nat) (X : Xb.Bx) (t : Nat × Nat) (j : Nat) (hi : i < 5) (hj : j < 5) : fget j (fset i X t) = if j = i then t else fget j X := by
 match i, j, hi, hj with
 | 0, 0, _, _ => rfl
 | 0, 1, _, _ => rfl
 | 0, 2, _, _ => rfl
 | 0, 3, _, _ => rfl
 | 0, 4, _, _ => rfl
 | 1, 0, _, _ => rfl
 | 1, 1, _, _ => rfl
 | 1, 2, _, _ => rfl
 | 1, 3, _, _ => rfl
 | 1, 4, _, _ => rfl
 | 2, 0, _, _ => rfl
 | 2, 1, _, _ => rfl
 | 2, 2, _, _ => rfl
 | 2, 3, _, _ => rfl
 | 2, 4, _, _ => rfl
 | 3, 0, _, _ => rfl
 | 3, 1, _, _ => rfl
 | 3, 2, _, _ => rfl
 | 3, 3, _, _ => rfl
 | 3, 4, _, _ => rfl
 | 4, 0, _, _ => rfl
 | 4, 1, _, _ => rfl
 | 4, 2, _, _ => rfl
 | 4, 3, _, _ => rfl
 | 4, 4, _, _ => rfl
 | n + 5, _, h, _ => omega
 | _, n + 5, _, h => omega
theorem lt5 {P : Nat → Prop} (h0 : P 0) (h1 : P 1) (h2 : P 2) (h3 : P 3) (h4 : P 4) : ∀ j, j < 5 → P j
 | 0, _ => h0
 | 1, _ => h1
 | 2, _ => h2
 | 3, _ => h3
 | 4, _ => h4
 | n + 5, h => by omega
theorem hasF_ok {i : Nat} {t : Nat × Nat} {x : Nat} (h : hasF i t x = true) : okF i t = true := by
 unfold hasF at h; unfold okF
 split
 ·rename_i e; rw [if_pos e] at h
  have := of_decide_eq_true h
  exact decide_eq_true (Nat.le_trans this.1 this.2)
 ·rename_i e; rw [if_neg e] at h
  exact hasM_ok h
theorem okX_F {X : Xb.Bx} : Xb.okX X = true ↔ ∀ j, j < 5 → okF j (fget j X) = true := by
 rw [Xb.okX_iff]
 constructor
 ·rintro ⟨h0, h1, h2, h3, h4⟩
  exact lt5 h0 h1 h2 h3 h4
 ·intro h
  exact ⟨h 0 (by omega), h 1 (by omega), h 2 (by omega), h 3 (by omega), h 4 (by omega)⟩
theorem hasY_F {X : Xb.Bx} {h : Hd} : hasY X h = true ↔ ∀ j, j < 5 → hasF j (fget j X) (hget j h) = true := by
 unfold hasY Xb.hasX
 simp only [Bool.and_eq_true]
 constructor
 ·rintro ⟨_, ⟨⟨⟨h0, h1⟩, h2⟩, h3⟩, h4⟩
  exact lt5 h0 h1 h2 h3 h4
 ·intro k
  exact ⟨okX_F.2 fun j hj => hasF_ok (k j hj), ⟨⟨⟨k 0 (by omega), k 1 (by omega)⟩, k 2 (by omega)⟩, k 3 (by omega)⟩, k 4 (by omega)⟩
theorem bdX_F {X : Xb.Bx} : Xb.BdX X ↔ ∀ j, j < 5 → bdF j (fget j X) := by
 constructor
 ·rintro ⟨a1, a2, b1, b2, c1, c2, d1, d2, m1, m2⟩
  exact lt5 ⟨a1, a2⟩ ⟨b1, b2⟩ ⟨c1, c2⟩ ⟨d1, d2⟩ ⟨m1, m2⟩
 ·intro k
  exact ⟨(k 0 (by omega)).1, (k 0 (by omega)).2, (k 1 (by omega)).1, (k 1 (by omega)).2, (k 2 (by omega)).1, (k 2 (by omega)).2, (k 3 (by omega)).1, (k 3 (by omega)).2, (k 4 (by omega)).1, (k 4 (by omega)).2⟩
def midI (s : Nat × Nat) : Nat := s.1 + (s.2 - s.1) / 2
def halI (s : Nat × Nat) : Option ((Nat × Nat) × (Nat × Nat)) := if s.1 < s.2 then some ((s.1, midI s), (midI s + 1, s.2)) else none
def hiB (f : Nat) : Nat := 2 ^ Nat.log2 f
def halM (m : Nat × Nat) : Option ((Nat × Nat) × (Nat × Nat)) := if 255 - m.2 = 0 then none else some ((m.1, m.2 ||| hiB (255 - m.2)), (m.1 ||| hiB (255 - m.2), m.2 ||| hiB (255 - m.2)))
def halF (i : Nat) (s : Nat × Nat) : Option ((Nat × Nat) × (Nat × Nat)) := if i < 4 then halI s else halM s
def metF (i : Nat) (s t : Nat × Nat) : Option (Nat × Nat) := if i < 4 then (if Xb.okI (Xb.meetI s t) then some (Xb.meetI s t) else none) else (if apM s.1 s.2 t.1 t.2 then none else some (s.1 ||| t.1, s.2 ||| t.2))
theorem metF_some {i : Nat} {s t u : Nat × Nat} (hs : okF i s = true) (ht : okF i t = true) (bs : bdF i s) (bt : bdF i t) (h : metF i s t = some u) : okF i u = true ∧ bdF i u ∧ ∀ x, hasF i u x = (hasF i s x && hasF i t x) := by
 unfold metF at h; unfold okF hasF bdF at *
 split at h
 ·rename_i e
  simp only [if_pos e] at *
  split at h
  ·rename_i e1
   cases h
   have b1 := bs.1; have b2 := bs.2; have b3 := bt.1; have b4 := bt.2
   exact ⟨e1, ⟨by unfold Xb.meetI; simp only; omega, by unfold Xb.meetI; simp only; omega⟩, Xb.meetI_has⟩
  ·cases h
 ·rename_i e
  simp only [if_neg e] at *
  split at h
  ·cases h
  ·rename_i e1
   cases h
   have e1 : apM s.1 s.2 t.1 t.2 = false := by simpa using e1
   have e2 : topF i = 256 := by unfold topF; rw [if_neg (by omega), if_neg e]
   rw [e2] at bs bt ⊢
   exact ⟨meet_ok hs ht, ⟨or_lt bs.1 bt.1, or_lt bs.2 bt.2⟩, fun x => meet_has hs ht e1⟩
theorem metF_none {i : Nat} {s t : Nat × Nat} (hs : okF i s = true) (ht : okF i t = true) (h : metF i s t = none) (x : Nat) : (hasF i s x && hasF i t x) = false := by
 unfold metF at h; unfold hasF
 split at h
 ·rename_i e
  simp only [if_pos e]
  split at h
  ·cases h
  ·rename_i e1
   rw [← Xb.meetI_has]
   cases hq : Xb.hasI (Xb.meetI s t) x
   ·rfl
   ·exfalso
    have := of_decide_eq_true hq
    exact e1 (decide_eq_true (Nat.le_trans this.1 this.2))
 ·rename_i e
  simp only [if_neg e]
  split at h
  ·rename_i e1
   exact apart_has e1
  ·cases h
theorem log_lt {f : Nat} (h : f ≠ 0) (hf : f < 256) : Nat.log2 f < 8 := (Nat.log2_lt h).2 hf
theorem hiB_free {c : Nat} (hc : c < 256) (h : 255 - c ≠ 0) : c.testBit (Nat.log2 (255 - c)) = false ∧ hiB (255 - c) < 256 ∧ ∀ j, (hiB (255 - c)).testBit j = decide (Nat.log2 (255 - c) = j) := by
 have h8 := log_lt h (by omega)
 refine ⟨?_, two_lt _ (by omega), fun j => by unfold hiB; rw [Nat.testBit_two_pow]⟩
 have h1 : (255 - c).testBit (Nat.log2 (255 - c)) = true := Nat.testBit_log2 h
 rw [not8 hc, decide_eq_true h8, Bool.true_and] at h1
 simpa using h1
theorem halF_ok {i : Nat} {s u v : Nat × Nat} (hi : i < 5) (hs : okF i s = true) (bs : bdF i s) (h : halF i s = some (u, v)) :
  (okF i u = true ∧ bdF i u ∧ ∀ x, hasF i u x = true → hasF i s x = true) ∧ (okF i v = true ∧ bdF i v ∧ ∀ x, hasF i v x = true → hasF i s x = true) ∧ ∀ x, hasF i s x = true → hasF i u x = true ∨ hasF i v x = true := by
 unfold halF at h; unfold okF hasF bdF at *
 split at h
 ·rename_i e
  simp only [if_pos e] at *
  unfold halI at h
  split at h
  ·rename_i e1
   cases h
   unfold midI Xb.okI Xb.hasI at *
   simp only [decide_eq_true_eq] at *
   have b1 := bs.1; have b2 := bs.2
   refine ⟨⟨by omega, ⟨by omega, by omega⟩, fun x hx => by omega⟩, ⟨by omega, ⟨by omega, by omega⟩, fun x hx => by omega⟩, fun x hx => by omega⟩
  ·cases h
 ·rename_i e
  have e2 : topF i = 256 := by unfold topF; rw [if_neg (by omega), if_neg e]
  simp only [if_neg e, e2] at *
  unfold halM at h
  split at h
  ·cases h
  ·rename_i e1
   cases h
   obtain ⟨f1, f2, f3⟩ := hiB_free bs.2 e1
   generalize hiB (255 - s.2) = b at *
   generalize Nat.log2 (255 - s.2) = k at *
   have ho := (okM_iff s.1 s.2).1 hs
   have hv : s.1.testBit k = false := by
    cases hh : s.1.testBit k
    ·rfl
    ·rw [ho k hh] at f1; cases f1
   refine ⟨⟨(okM_iff _ _).2 fun j hj => ?_, ⟨bs.1, or_lt bs.2 f2⟩, fun x hx => (hasM_iff _ _ _).2 fun j => ?_⟩, ⟨(okM_iff _ _).2 fun j hj => ?_, ⟨or_lt bs.1 f2, or_lt bs.2 f2⟩, fun x hx => (hasM_iff _ _ _).2 fun j => ?_⟩, fun x hx => ?_⟩
   ·rw [Nat.testBit_or, ho j hj, Bool.true_or]
   ·have := (hasM_iff _ _ _).1 hx j
    rw [Nat.testBit_or, f3] at this
    by_cases e : k = j
    ·subst e; rw [f1, hv, Bool.and_false]
    ·rw [decide_eq_false e, Bool.or_false] at this; exact this
   ·rw [Nat.testBit_or, f3] at hj ⊢
    cases hh : s.1.testBit j
    ·rw [hh, Bool.false_or] at hj; rw [hj, Bool.or_true]
    ·rw [ho j hh, Bool.true_or]
   ·have := (hasM_iff _ _ _).1 hx j
    rw [Nat.testBit_or, Nat.testBit_or, f3] at this
    by_cases e : k = j
    ·subst e; rw [f1, hv, Bool.and_false]
    ·rw [decide_eq_false e, Bool.or_false, Bool.or_false] at this; exact this
   ·have hx := (hasM_iff _ _ _).1 hx
    cases hk : x.testBit k
    ·refine .inl ((hasM_iff _ _ _).2 fun j => ?_)
     rw [Nat.testBit_or, f3]
     by_cases e : k = j
     ·subst e; rw [hk, hv, Bool.false_and]
     ·rw [decide_eq_false e, Bool.or_false]; exact hx j
    ·refine .inr ((hasM_iff _ _ _).2 fun j => ?_)
     rw [Nat.testBit_or, Nat.testBit_or, f3]
     by_cases e : k = j
     ·subst e; rw [hk, hv]; simp
     ·rw [decide_eq_false e, Bool.or_false, Bool.or_false]; exact hx j
abbrev Part := Xb.Bx × List (Nat × Xb.Bx)
def nar (i : Nat) (Y : Xb.Bx) (t : Nat × Nat) : List (Nat × Xb.Bx) → List (Nat × Xb.Bx)
 | [] => []
 | e :: L => match metF i (fget i e.2) t with
  | none => nar i Y t L
  | some u => if fset i e.2 u = Y then [(e.1, fset i e.2 u)] else (e.1, fset i e.2 u) :: nar i Y t L
def halfP (i : Nat) (P : Part) (t : Nat × Nat) : Part := (fset i P.1 t, nar i (fset i P.1 t) t P.2)
def tryF (i : Nat) (P : Part) : Option (Part × Part) := match halF i (fget i P.1) with
 | none => none
 | some (u, v) => some (halfP i P u, halfP i P v)
def cutsK (P : Part) : Nat → List (Part × Part)
 | 0 => []
 | k + 1 => match tryF k P with
  | none => cutsK P k
  | some c => cutsK P k ++ [c]
def cutsP (P : Part) : List (Part × Part) := cutsK P 5
def moreC (c : Part × Part) : Nat := max c.1.2.length c.2.2.length
def bothC (c : Part × Part) : Nat := c.1.2.length + c.2.2.length
def lessC (c d : Part × Part) : Bool := decide (moreC c < moreC d) || (decide (moreC c = moreC d) && decide (bothC c < bothC d))
def minC : Part × Part → List (Part × Part) → Part × Part
 | m, [] => m
 | m, c :: l => minC (if lessC c m then c else m) l
def bestP (P : Part) : Part × Part := match cutsP P with
 | [] => (P, P)
 | c :: l => minC c l
def plcP (P : Part) : List Nat := P.2.map (·.1)
def fndT (bn : Nat) (h : Hd) : Nat → Part → List Nat × Nat
 | 0, P => (plcP P, 0)
 | d + 1, P => if P.2.length ≤ bn then (plcP P, 0) else
  let r := if hasY (bestP P).1.1 h then fndT bn h d (bestP P).1 else fndT bn h d (bestP P).2
  (r.1, r.2 + 1)
def szT (bn : Nat) : Nat → Part → Nat × Nat
 | 0, P => (1, P.2.length)
 | d + 1, P => if P.2.length ≤ bn then (1, P.2.length) else
  (1 + (szT bn d (bestP P).1).1 + (szT bn d (bestP P).2).1, (szT bn d (bestP P).1).2 + (szT bn d (bestP P).2).2)
structure CtOk (l : List Ru) (d : Nat) (P : Part) : Prop where
 okx : ∀ j, j < 5 → okF j (fget j P.1) = true
 bd : ∀ j, j < 5 → bdF j (fget j P.1)
 wid : 2 ^ d ≤ P.1.a.2 + 1 - P.1.a.1
 lt : ∀ e ∈ P.2, e.1 < l.length
 eok : ∀ e ∈ P.2, ∀ j, j < 5 → okF j (fget j e.2) = true
 ebd : ∀ e ∈ P.2, ∀ j, j < 5 → bdF j (fget j e.2)
 ent : ∀ e ∈ P.2, ∀ h, hasY P.1 h = true → hasY e.2 h = matchR (ruK l e.1) h
 ris : (plcP P).Pairwise (· < ·)
 cov : ∀ h k, hasY P.1 h = true → k < l.length → matchR (ruK l k) h = true → (∀ j, j < k → matchR (ruK l j) h = false) → ∃ e ∈ P.2, e.1 = k
theorem nar_mem {i : Nat} {Y : Xb.Bx} {t : Nat × Nat} : ∀ {L : List (Nat × Xb.Bx)} {e : Nat × Xb.Bx}, e ∈ nar i Y t L → ∃ o ∈ L, ∃ u, metF i (fget i o.2) t = some u ∧ e = (o.1, fset i o.2 u)
 | [], e, h => by simp [nar] at h
 | o :: L, e, h => by
  unfold nar at h
  split at h
  ·obtain ⟨o', ho, u, h1, h2⟩ := nar_mem h
   exact ⟨o', List.mem_cons_of_mem _ ho, u, h1, h2⟩
  ·rename_i u hu
   split at h
   ·have := List.mem_singleton.1 h
    exact ⟨o, List.mem_cons_self .., u, hu, this⟩
   ·rcases List.mem_cons.1 h with h | h
    ·exact ⟨o, List.mem_cons_self .., u, hu, h⟩
    ·obtain ⟨o', ho, u', h1, h2⟩ := nar_mem h
     exact ⟨o', List.mem_cons_of_mem _ ho, u', h1, h2⟩
theorem nar_sub {i : Nat} {Y : Xb.Bx} {t : Nat × Nat} : ∀ L : List (Nat × Xb.Bx), ((nar i Y t L).map (·.1)).Sublist (L.map (·.1))
 | [] => List.Sublist.refl _
 | o :: L => by
  unfold nar
  split
  ·exact (nar_sub L).cons _
  ·split
   ·exact (List.nil_sublist _).cons_cons _
   ·exact (nar_sub L).cons_cons _
theorem nar_len {i : Nat} {Y : Xb.Bx} {t : Nat × Nat} (L : List (Nat × Xb.Bx)) : (nar i Y t L).length ≤ L.length := by
 have := (nar_sub (i := i) (Y := Y) (t := t) L).length_le
 simpa using this
theorem hasY_set {i : Nat} (hi : i < 5) {X : Xb.Bx} {u : Nat × Nat} {h : Hd} : hasY (fset i X u) h = true ↔ hasF i u (hget i h) = true ∧ ∀ j, j < 5 → j ≠ i → hasF j (fget j X) (hget j h) = true := by
 rw [hasY_F]
 constructor
 ·intro k
  refine ⟨?_, fun j hj e => ?_⟩
  ·have := k i hi; rw [fget_set i X u i hi hi, if_pos rfl] at this; exact this
  ·have := k j hj; rw [fget_set i X u j hi hj, if_neg e] at this; exact this
 ·rintro ⟨k1, k2⟩ j hj
  rw [fget_set i X u j hi hj]
  split
  ·rename_i e; subst e; exact k1
  ·rename_i e; exact k2 j hj e
theorem hasY_met {i : Nat} (hi : i < 5) {C : Xb.Bx} {t u : Nat × Nat} {h : Hd} (hC : ∀ j, j < 5 → okF j (fget j C) = true) (ht : okF i t = true) (bC : ∀ j, j < 5 → bdF j (fget j C)) (bt : bdF i t) (hu : metF i (fget i C) t = some u) (hh : hasF i t (hget i h) = true) : hasY (fset i C u) h = hasY C h := by
 have e := (metF_some (hC i hi) ht (bC i hi) bt hu).2.2 (hget i h)
 rw [hh, Bool.and_true] at e
 rw [Bool.eq_iff_iff, hasY_set hi, e, hasY_F]
 constructor
 ·rintro ⟨k1, k2⟩ j hj
  by_cases e : j = i
  ·subst e; exact k1
  ·exact k2 j hj e
 ·intro k
  exact ⟨k i hi, fun j hj _ => k j hj⟩
theorem nar_cov {i : Nat} (hi : i < 5) {Y : Xb.Bx} {t : Nat × Nat} {h : Hd} (ht : okF i t = true) (bt : bdF i t) (hh : hasF i t (hget i h) = true) (hY : hasY Y h = true) {k : Nat} :
  ∀ L : List (Nat × Xb.Bx), (∀ e ∈ L, ∀ j, j < 5 → okF j (fget j e.2) = true) → (∀ e ∈ L, ∀ j, j < 5 → bdF j (fget j e.2)) → (L.map (·.1)).Pairwise (· < ·) → (∀ e ∈ L, e.1 < k → hasY e.2 h = false) → (∃ e ∈ L, e.1 = k ∧ hasY e.2 h = true) → ∃ e ∈ nar i Y t L, e.1 = k
 | [], _, _, _, _, h => by obtain ⟨e, he, _⟩ := h; cases he
 | o :: L, ho, bo, hr, hl, hk => by
  obtain ⟨e, he, e1, e2⟩ := hk
  have hr' := List.pairwise_cons.1 (by simpa using hr : (o.1 :: L.map (·.1)).Pairwise (· < ·))
  have oo := ho o (List.mem_cons_self ..)
  have ob := bo o (List.mem_cons_self ..)
  unfold nar
  rcases List.mem_cons.1 he with rfl | he
  ·split
   ·rename_i hn
    have := metF_none (oo i hi) ht hn (hget i h)
    rw [hh, Bool.and_true, hasY_F.1 e2 i hi] at this
    cases this
   ·split
    ·exact ⟨_, List.mem_singleton.2 rfl, e1⟩
    ·exact ⟨_, List.mem_cons_self .., e1⟩
  ·have lt : o.1 < k := by rw [← e1]; exact hr'.1 _ (List.mem_map.2 ⟨e, he, rfl⟩)
   have no := hl o (List.mem_cons_self ..) lt
   have ih := nar_cov hi ht bt hh hY (k := k) L (fun e he => ho e (List.mem_cons_of_mem _ he)) (fun e he => bo e (List.mem_cons_of_mem _ he)) hr'.2 (fun e he => hl e (List.mem_cons_of_mem _ he)) ⟨e, he, e1, e2⟩
   split
   ·exact ih
   ·rename_i u hu
    split
    ·rename_i hq
     exfalso
     have := hasY_met hi oo ht ob bt hu hh
     rw [hq, hY, no] at this
     cases this
    ·obtain ⟨e', he', e3⟩ := ih
     exact ⟨e', List.mem_cons_of_mem _ he', e3⟩
theorem half_ok {l : List Ru} {d i : Nat} {P : Part} (hi : i < 5) (o : CtOk l (d + 1) P) {t : Nat × Nat} (ht : okF i t = true) (bt : bdF i t) (hsub : ∀ x, hasF i t x = true → hasF i (fget i P.1) x = true) (hw : i = 0 → 2 ^ d ≤ t.2 + 1 - t.1) : CtOk l d (halfP i P t) := by
 have sub : ∀ h, hasY (fset i P.1 t) h = true → hasY P.1 h = true := fun h hh => by
  have := (hasY_set hi).1 hh
  rw [hasY_F]
  intro j hj
  by_cases e : j = i
  ·subst e; exact hsub _ this.1
  ·exact this.2 j hj e
 have fx : ∀ h, hasY (fset i P.1 t) h = true → hasF i t (hget i h) = true := fun h hh => ((hasY_set hi).1 hh).1
 refine ⟨fun j hj => ?_, fun j hj => ?_, ?_, fun e he => ?_, fun e he j hj => ?_, fun e he j hj => ?_, fun e he h hh => ?_, ?_, fun h k hh hk hm hn => ?_⟩
 ·show okF j (fget j (fset i P.1 t)) = true
  rw [fget_set i P.1 t j hi hj]
  split
  ·rename_i e; subst e; exact ht
  ·exact o.okx j hj
 ·show bdF j (fget j (fset i P.1 t))
  rw [fget_set i P.1 t j hi hj]
  split
  ·rename_i e; subst e; exact bt
  ·exact o.bd j hj
 ·show 2 ^ d ≤ (fget 0 (fset i P.1 t)).2 + 1 - (fget 0 (fset i P.1 t)).1
  rw [fget_set i P.1 t 0 hi (by omega)]
  split
  ·rename_i e; exact hw e.symm
  ·have := o.wid
   rw [Nat.pow_succ] at this
   show 2 ^ d ≤ P.1.a.2 + 1 - P.1.a.1
   omega
 ·obtain ⟨o', ho, u, _, rfl⟩ := nar_mem he
  exact o.lt o' ho
 ·obtain ⟨o', ho, u, hu, rfl⟩ := nar_mem he
  rw [fget_set i o'.2 u j hi hj]
  split
  ·rename_i e; subst e; exact (metF_some (o.eok o' ho _ hi) ht (o.ebd o' ho _ hi) bt hu).1
  ·exact o.eok o' ho j hj
 ·obtain ⟨o', ho, u, hu, rfl⟩ := nar_mem he
  rw [fget_set i o'.2 u j hi hj]
  split
  ·rename_i e; subst e; exact (metF_some (o.eok o' ho _ hi) ht (o.ebd o' ho _ hi) bt hu).2.1
  ·exact o.ebd o' ho j hj
 ·obtain ⟨o', ho, u, hu, rfl⟩ := nar_mem he
  show hasY (fset i o'.2 u) h = _
  rw [hasY_met hi (o.eok o' ho) ht (o.ebd o' ho) bt hu (fx h hh)]
  exact o.ent o' ho h (sub h hh)
 ·exact List.Pairwise.sublist (nar_sub P.2) o.ris
 ·have hP := sub h hh
  obtain ⟨e, he, e1⟩ := o.cov h k hP hk hm hn
  refine nar_cov hi ht bt (fx h hh) hh P.2 o.eok o.ebd o.ris (fun e' he' lt => ?_) ⟨e, he, e1, ?_⟩
  ·rw [o.ent e' he' h hP]; exact hn _ lt
  ·rw [o.ent e he h hP, e1]; exact hm
theorem tryF_ok {l : List Ru} {d i : Nat} {P : Part} (hi : i < 5) (o : CtOk l (d + 1) P) {c : Part × Part} (h : tryF i P = some c) : CtOk l d c.1 ∧ CtOk l d c.2 ∧ ∀ x, hasY P.1 x = true → hasY c.1.1 x = true ∨ hasY c.2.1 x = true := by
 unfold tryF at h
 split at h
 ·cases h
 ·rename_i u v hu
  cases h
  obtain ⟨⟨u1, u2, u3⟩, ⟨v1, v2, v3⟩, hx⟩ := halF_ok hi (o.okx i hi) (o.bd i hi) hu
  have wid : i = 0 → 2 ^ d ≤ u.2 + 1 - u.1 ∧ 2 ^ d ≤ v.2 + 1 - v.1 := by
   intro e
   subst e
   have hw := o.wid
   have hk : halI P.1.a = some (u, v) := hu
   unfold halI at hk
   split at hk
   ·rename_i lt
    cases hk
    rw [Nat.pow_succ] at hw
    unfold midI
    generalize 2 ^ d = z at *
    constructor
    ·show z ≤ P.1.a.1 + (P.1.a.2 - P.1.a.1) / 2 + 1 - P.1.a.1
     omega
    ·show z ≤ P.1.a.2 + 1 - (P.1.a.1 + (P.1.a.2 - P.1.a.1) / 2 + 1)
     omega
   ·cases hk
  refine ⟨half_ok hi o u1 u2 u3 fun e => (wid e).1, half_ok hi o v1 v2 v3 fun e => (wid e).2, fun x hP => ?_⟩
  have hf := hasY_F.1 hP
  rcases hx _ (hf i hi) with k | k
  ·exact .inl ((hasY_set hi).2 ⟨k, fun j hj _ => hf j hj⟩)
  ·exact .inr ((hasY_set hi).2 ⟨k, fun j hj _ => hf j hj⟩)
theorem cutsK_mem {P : Part} {c : Part × Part} : ∀ {k : Nat}, c ∈ cutsK P k → ∃ i, i < k ∧ tryF i P = some c
 | 0, h => by cases h
 | k + 1, h => by
  unfold cutsK at h
  split at h
  ·obtain ⟨i, hi, e⟩ := cutsK_mem h
   exact ⟨i, by omega, e⟩
  ·rename_i c' hc
   rcases List.mem_append.1 h with h | h
   ·obtain ⟨i, hi, e⟩ := cutsK_mem h
    exact ⟨i, by omega, e⟩
   ·rw [List.mem_singleton.1 h]
    exact ⟨k, by omega, hc⟩
theorem cutsK_first {P : Part} {c : Part × Part} (h : tryF 0 P = some c) : ∀ k, cutsK P (k + 1) ≠ []
 | 0 => by unfold cutsK; rw [h]; simp
 | k + 1 => by
  unfold cutsK
  split
  ·exact cutsK_first h k
  ·simp
theorem cutsK_len (P : Part) : ∀ k, (cutsK P k).length ≤ k
 | 0 => Nat.le_refl _
 | k + 1 => by
  have := cutsK_len P k
  unfold cutsK
  split
  ·omega
  ·simp only [List.length_append, List.length_cons, List.length_nil]; omega
theorem cuts_ne {l : List Ru} {d : Nat} {P : Part} (o : CtOk l (d + 1) P) : cutsP P ≠ [] := by
 have hw := o.wid
 have hp : 0 < 2 ^ d := Nat.pow_pos (by decide)
 rw [Nat.pow_succ] at hw
 have : halF 0 (fget 0 P.1) = some ((P.1.a.1, midI P.1.a), (midI P.1.a + 1, P.1.a.2)) := by
  show halI P.1.a = _
  unfold halI
  rw [if_pos (by omega)]
 refine cutsK_first (c := (halfP 0 P (P.1.a.1, midI P.1.a), halfP 0 P (midI P.1.a + 1, P.1.a.2))) ?_ 4
 unfold tryF
 rw [this]
theorem minC_mem : ∀ (l : List (Part × Part)) (m : Part × Part), minC m l = m ∨ minC m l ∈ l
 | [], m => .inl rfl
 | c :: l, m => by
  unfold minC
  rcases minC_mem l (if lessC c m then c else m) with h | h
  ·rw [h]
   split
   ·exact .inr (List.mem_cons_self ..)
   ·exact .inl rfl
  ·exact .inr (List.mem_cons_of_mem _ h)
theorem best_mem {l : List Ru} {d : Nat} {P : Part} (o : CtOk l (d + 1) P) : bestP P ∈ cutsP P := by
 have := cuts_ne o
 unfold bestP
 split
 ·rename_i e; exact absurd e this
 ·rename_i c m e
  rw [e]
  rcases minC_mem m c with h | h
  ·rw [h]; exact List.mem_cons_self ..
  ·exact List.mem_cons_of_mem _ h
theorem best_ok {l : List Ru} {d : Nat} {P : Part} (o : CtOk l (d + 1) P) : CtOk l d (bestP P).1 ∧ CtOk l d (bestP P).2 ∧ ∀ x, hasY P.1 x = true → hasY (bestP P).1.1 x = true ∨ hasY (bestP P).2.1 x = true := by
 obtain ⟨i, hi, e⟩ := cutsK_mem (best_mem o)
 exact tryF_ok hi o e
theorem rise_len {n : Nat} : ∀ (L : List Nat) (b : Nat), L.Pairwise (· < ·) → (∀ x ∈ L, b ≤ x ∧ x < n) → L.length ≤ n - b
 | [], b, _, _ => Nat.zero_le _
 | x :: L, b, hp, hx => by
  have hp' := List.pairwise_cons.1 hp
  have := rise_len L (x + 1) hp'.2 fun y hy => ⟨hp'.1 y hy, (hx y (List.mem_cons_of_mem _ hy)).2⟩
  have := hx x (List.mem_cons_self ..)
  simp only [List.length_cons]
  omega
theorem CtOk.len {l : List Ru} {d : Nat} {P : Part} (o : CtOk l d P) : P.2.length ≤ l.length := by
 have := rise_len (n := l.length) (plcP P) 0 o.ris fun x hx => by
  obtain ⟨e, he, rfl⟩ := List.mem_map.1 hx
  exact ⟨Nat.zero_le _, o.lt e he⟩
 rw [Nat.sub_zero] at this
 unfold plcP at this
 simpa using this
structure Leaf (l : List Ru) (bn d : Nat) (h : Hd) (r : List Nat × Nat) : Prop where
 deep : r.2 ≤ d
 few : r.2 < d → r.1.length ≤ bn
 len : r.1.length ≤ l.length
 lt : ∀ k ∈ r.1, k < l.length
 ris : r.1.Pairwise (· < ·)
 cov : ∀ k, k < l.length → matchR (ruK l k) h = true → (∀ j, j < k → matchR (ruK l j) h = false) → k ∈ r.1
theorem leaf_here {l : List Ru} {bn d : Nat} {P : Part} (o : CtOk l d P) {h : Hd} (hh : hasY P.1 h = true) (hb : 0 < d → P.2.length ≤ bn) : Leaf l bn d h (plcP P, 0) := by
 refine ⟨Nat.zero_le _, fun e => ?_, ?_, fun k hk => ?_, o.ris, fun k hk hm hn => ?_⟩
 ·show (plcP P).length ≤ bn
  unfold plcP; rw [List.length_map]; exact hb e
 ·show (plcP P).length ≤ _
  unfold plcP; rw [List.length_map]; exact o.len
 ·obtain ⟨e, he, rfl⟩ := List.mem_map.1 hk
  exact o.lt e he
 ·obtain ⟨e, he, rfl⟩ := o.cov h k hh hk hm hn
  exact List.mem_map.2 ⟨e, he, rfl⟩
theorem fnd_leaf {l : List Ru} {bn : Nat} {h : Hd} : ∀ (d : Nat) {P : Part}, CtOk l d P → hasY P.1 h = true → Leaf l bn d h (fndT bn h d P)
 | 0, P, o, hh => leaf_here o hh fun e => absurd e (Nat.lt_irrefl _)
 | d + 1, P, o, hh => by
  unfold fndT
  split
  ·rename_i e
   exact leaf_here o hh fun _ => e
  ·obtain ⟨o1, o2, hx⟩ := best_ok o
   have up : ∀ r, Leaf l bn d h r → Leaf l bn (d + 1) h (r.1, r.2 + 1) := fun r k => ⟨Nat.succ_le_succ k.deep, fun e => k.few (Nat.lt_of_succ_lt_succ e), k.len, k.lt, k.ris, k.cov⟩
   refine up _ ?_
   split
   ·rename_i e; exact fnd_leaf d o1 e
   ·rename_i e; exact fnd_leaf d o2 ((hx h hh).resolve_left e)
theorem sz_ok {l : List Ru} {bn : Nat} : ∀ (d : Nat) {P : Part}, CtOk l d P → 1 ≤ (szT bn d P).1 ∧ (szT bn d P).1 + 1 ≤ 2 ^ (d + 1) ∧ (szT bn d P).2 ≤ (szT bn d P).1 * l.length
 | 0, P, o => ⟨Nat.le_refl _, Nat.le_refl _, by show P.2.length ≤ 1 * l.length; rw [Nat.one_mul]; exact o.len⟩
 | d + 1, P, o => by
  have h2 : 2 ≤ 2 ^ (d + 1) := by rw [Nat.pow_succ]; have : 0 < 2 ^ d := Nat.pow_pos (by decide); omega
  have e : 2 ^ (d + 1 + 1) = 2 ^ (d + 1) + 2 ^ (d + 1) := by rw [Nat.pow_succ]; omega
  unfold szT
  split
  ·refine ⟨Nat.le_refl _, by simp only; omega, ?_⟩
   show P.2.length ≤ 1 * l.length
   rw [Nat.one_mul]; exact o.len
  ·obtain ⟨o1, o2, _⟩ := best_ok o
   obtain ⟨a1, a2, a3⟩ := sz_ok (bn := bn) d o1
   obtain ⟨b1, b2, b3⟩ := sz_ok (bn := bn) d o2
   refine ⟨by simp only; omega, by simp only; omega, ?_⟩
   simp only [Nat.add_mul]
   omega
def wholeP : Xb.Bx := ⟨(0, 4294967295), (0, 4294967295), (0, 65535), (0, 65535), (0, 0)⟩
def allK : List Ru → Nat → List (Nat × Xb.Bx)
 | [], _ => []
 | R :: l, k => if boxY R = wholeP then [(k, boxY R)] else (k, boxY R) :: allK l (k + 1)
def rootP (l : List Ru) : Part := (wholeP, allK l 0)
theorem allK_mem : ∀ {l : List Ru} {k : Nat} {e : Nat × Xb.Bx}, e ∈ allK l k → ∃ (i : Nat) (h : i < l.length), e = (k + i, boxY l[i])
 | [], k, e, h => by simp [allK] at h
 | R :: l, k, e, h => by
  unfold allK at h
  split at h
  ·exact ⟨0, by simp, List.mem_singleton.1 h⟩
  ·rcases List.mem_cons.1 h with h | h
   ·exact ⟨0, by simp, h⟩
   ·obtain ⟨i, hi, e1⟩ := allK_mem h
    exact ⟨i + 1, by simp; omega, by rw [e1]; simp; omega⟩
theorem allK_ris : ∀ (l : List Ru) (k : Nat), ((allK l k).map (·.1)).Pairwise (· < ·)
 | [], k => List.Pairwise.nil
 | R :: l, k => by
  unfold allK
  split
  ·simp
  ·simp only [List.map_cons, List.pairwise_cons]
   refine ⟨fun x hx => ?_, allK_ris l (k + 1)⟩
   obtain ⟨e, he, rfl⟩ := List.mem_map.1 hx
   obtain ⟨i, _, e1⟩ := allK_mem he
   rw [e1]; simp only; omega
theorem whole_has {h : Hd} (oh : OkH h) : hasY wholeP h = true := by
 obtain ⟨h1, h2, h3, h4, h5⟩ := oh
 rw [hasY_F]
 refine lt5 ?_ ?_ ?_ ?_ ?_
 ·exact decide_eq_true ⟨Nat.zero_le _, by show h.s ≤ 4294967295; omega⟩
 ·exact decide_eq_true ⟨Nat.zero_le _, by show h.d ≤ 4294967295; omega⟩
 ·exact decide_eq_true ⟨Nat.zero_le _, by show h.p ≤ 65535; omega⟩
 ·exact decide_eq_true ⟨Nat.zero_le _, by show h.q ≤ 65535; omega⟩
 ·exact decide_eq_true (by show h.r &&& 0 = 0; simp)
theorem allK_cov {h : Hd} (hw : hasY wholeP h = true) : ∀ (l : List Ru) (b k : Nat) (hk : k < l.length), (∀ R ∈ l, okR R = true) → (∀ j (hj : j < k), matchR (l[j]'(by omega)) h = false) → ∃ e ∈ allK l b, e.1 = b + k
 | R :: l, b, 0, _, _, _ => by
  unfold allK
  split
  ·exact ⟨_, List.mem_singleton.2 rfl, rfl⟩
  ·exact ⟨_, List.mem_cons_self .., rfl⟩
 | R :: l, b, k + 1, hk, ok, hn => by
  have h0 := hn 0 (by omega)
  unfold allK
  split
  ·rename_i e
   exfalso
   rw [List.getElem_cons_zero, ← hasY_box (ok R (List.mem_cons_self ..)), e, hw] at h0
   cases h0
  ·obtain ⟨e, he, e1⟩ := allK_cov hw l (b + 1) k (by simpa using hk) (fun R hR => ok R (List.mem_cons_of_mem _ hR)) fun j hj => by
    have := hn (j + 1) (by omega)
    simpa using this
   exact ⟨e, List.mem_cons_of_mem _ he, by omega⟩
theorem whole_ok : Xb.okX wholeP = true := by decide
theorem whole_bd : Xb.BdX wholeP := by unfold Xb.BdX wholeP; simp
theorem root_ok {l : List Ru} (ok : ∀ R ∈ l, okR R = true) (b : ∀ R ∈ l, BdR R) {d : Nat} (hd : d ≤ 32) : CtOk l d (rootP l) := by
 have key : ∀ e ∈ allK l 0, ∃ (i : Nat) (h : i < l.length), e = (i, boxY l[i]) := fun e he => by
  obtain ⟨i, hi, e1⟩ := allK_mem he
  exact ⟨i, hi, by rw [e1, Nat.zero_add]⟩
 refine ⟨?_, ?_, ?_, fun e he => ?_, fun e he => ?_, fun e he => ?_, fun e he h _ => ?_, allK_ris l 0, fun h k hh hk hm hn => ?_⟩
 ·exact okX_F.1 whole_ok
 ·exact bdX_F.1 whole_bd
 ·have h1 : 2 ^ d ≤ 2 ^ 32 := Nat.pow_le_pow_right (by decide) hd
  have h2 : (2 : Nat) ^ 32 = 4294967296 := by decide
  have h3 : (rootP l).1.a.2 + 1 - (rootP l).1.a.1 = 4294967296 := rfl
  omega
 ·obtain ⟨i, hi, rfl⟩ := key e he
  exact hi
 ·obtain ⟨i, hi, rfl⟩ := key e he
  exact okX_F.1 (okY_box (ok _ (List.getElem_mem hi)))
 ·obtain ⟨i, hi, rfl⟩ := key e he
  exact bdX_F.1 (boxY_bd (b _ (List.getElem_mem hi)) (ok _ (List.getElem_mem hi)))
 ·obtain ⟨i, hi, rfl⟩ := key e he
  show hasY (boxY l[i]) h = matchR (ruK l i) h
  rw [hasY_box (ok _ (List.getElem_mem hi)), ruK_at hi]
 ·obtain ⟨e, he, e1⟩ := allK_cov hh l 0 k hk ok fun j hj => by
   have := hn j hj
   rw [ruK_at (l := l) (i := j) (by omega)] at this
   exact this
  exact ⟨e, he, by omega⟩
def fsT (l : List Ru) (h : Hd) : List Nat → Int × Nat
 | [] => (-1, 0)
 | k :: L => if matchR (ruK l k) h then ((k : Int), 1) else ((fsT l h L).1, (fsT l h L).2 + 1)
theorem mat_at {h : Hd} {l : List Ru} {k : Nat} (hk : k < l.length) (hn : ∀ j, j < k → matchR (ruK l j) h = false) (hm : matchR (ruK l k) h = true) : mat l h = (k : Int) := by
 have key : ∀ d, d ≤ k → matK h (l.drop (k - d)) (k - d) = (k : Int) := fun d => by
  induction d with
  | zero => intro _; rw [ruK_at hk] at hm; exact matK_hit hk hm
  | succ d ih =>
   intro hd
   have h1 := hn (k - (d + 1)) (by omega)
   rw [ruK_at (l := l) (i := k - (d + 1)) (by omega)] at h1
   rw [matK_no (by omega) h1, show k - (d + 1) + 1 = k - d by omega]
   exact ih (by omega)
 have := key k (Nat.le_refl _)
 rw [Nat.sub_self] at this
 exact this
theorem mat_none {h : Hd} {l : List Ru} (hn : ∀ j, j < l.length → matchR (ruK l j) h = false) : mat l h = -1 := by
 have key : ∀ d, d ≤ l.length → matK h (l.drop (l.length - d)) (l.length - d) = -1 := fun d => by
  induction d with
  | zero => intro _; exact matK_end (Nat.le_refl _)
  | succ d ih =>
   intro hd
   have h1 := hn (l.length - (d + 1)) (by omega)
   rw [ruK_at (l := l) (i := l.length - (d + 1)) (by omega)] at h1
   rw [matK_no (by omega) h1, show l.length - (d + 1) + 1 = l.length - d by omega]
   exact ih (by omega)
 have := key l.length (Nat.le_refl _)
 rw [Nat.sub_self] at this
 exact this
theorem first_ex {h : Hd} {l : List Ru} : ∀ n, n ≤ l.length → (∀ j, j < n → matchR (ruK l j) h = false) ∨ ∃ k, k < n ∧ matchR (ruK l k) h = true ∧ ∀ j, j < k → matchR (ruK l j) h = false
 | 0, _ => .inl fun j hj => by omega
 | n + 1, hn => by
  rcases first_ex (h := h) (l := l) n (by omega) with k | ⟨k, hk, k1, k2⟩
  ·cases e : matchR (ruK l n) h
   ·refine .inl fun j hj => ?_
    by_cases ej : j = n
    ·rw [ej]; exact e
    ·exact k j (by omega)
   ·exact .inr ⟨n, by omega, e, k⟩
  ·exact .inr ⟨k, by omega, k1, k2⟩
theorem fsT_none {l : List Ru} {h : Hd} : ∀ L : List Nat, (∀ k ∈ L, matchR (ruK l k) h = false) → fsT l h L = (-1, L.length)
 | [], _ => rfl
 | k :: L, hn => by
  unfold fsT
  rw [if_neg (by rw [hn k (List.mem_cons_self ..)]; simp), fsT_none L fun k hk => hn k (List.mem_cons_of_mem _ hk)]
  rfl
theorem fsT_at {l : List Ru} {h : Hd} {k : Nat} (hm : matchR (ruK l k) h = true) : ∀ L : List Nat, L.Pairwise (· < ·) → k ∈ L → (∀ j, j < k → matchR (ruK l j) h = false) → (fsT l h L).1 = (k : Int) ∧ 1 ≤ (fsT l h L).2 ∧ (fsT l h L).2 ≤ L.length
 | [], _, h, _ => by cases h
 | x :: L, hp, hk, hn => by
  have hp' := List.pairwise_cons.1 hp
  unfold fsT
  rcases List.mem_cons.1 hk with rfl | hk
  ·rw [if_pos hm]
   exact ⟨rfl, Nat.le_refl _, by simp⟩
  ·rw [if_neg (by rw [hn x (hp'.1 k hk)]; simp)]
   obtain ⟨a, b, c⟩ := fsT_at hm L hp'.2 hk hn
   exact ⟨a, by simp only; omega, by simp only [List.length_cons]; omega⟩
theorem leaf_mat {l : List Ru} {bn d : Nat} {h : Hd} {r : List Nat × Nat} (k : Leaf l bn d h r) : (fsT l h r.1).1 = mat l h ∧ (fsT l h r.1).2 ≤ r.1.length ∧ (vdH (mat l h) = true → 1 ≤ (fsT l h r.1).2) := by
 rcases first_ex (h := h) (l := l) l.length (Nat.le_refl _) with hn | ⟨i, hi, hm, hn⟩
 ·have e := mat_none hn
  have f := fsT_none (l := l) (h := h) r.1 fun j hj => hn j (k.lt j hj)
  rw [e, f]
  exact ⟨rfl, Nat.le_refl _, fun e => by cases e⟩
 ·have e := mat_at hi hn hm
  obtain ⟨a, b, c⟩ := fsT_at hm r.1 k.ris (k.cov i hi hm hn) hn
  rw [e]
  exact ⟨a, c, fun _ => b⟩
end Go.Proofs.YtgokmkholjfhbaaGreat
