/-
  Rules as numbers, headers; which field is wrong; what matches. No program is named here. (PxPlain is laid with NS=Pf.)
-/
import Derived.Test.YtgidohnikggjfaaGreatMkPlB
import Derived.Test.YtgidohnikggjfaaGreatMkA
import Derived.Test.YtgidohnikggjfaaGreatPxPlain
namespace Go.Proofs.YtgidohnikggjfaaGreat
set_option linter.unusedVariables false

def okI (s : Nat × Nat) : Bool := decide (s.1 ≤ s.2)
def hasI (s : Nat × Nat) (x : Nat) : Bool := decide (s.1 ≤ x ∧ x ≤ s.2)
/-- A rule: Id, Src (address, length), Dst, Sport, Dport, Proto, Action. -/
structure Ru where
  i : Int
  s : Nat
  sl : Int
  d : Nat
  dl : Int
  p : Nat × Nat
  q : Nat × Nat
  m : Nat × Nat
  act : Int
/-- A header: Src, Dst, Sport, Dport, Proto. -/
structure Hd where
  s : Nat
  d : Nat
  p : Nat
  q : Nat
  r : Nat
def OkH (h : Hd) : Prop := h.s < 4294967296 ∧ h.d < 4294967296 ∧ h.p < 65536 ∧ h.q < 65536 ∧ h.r < 256
def okR (R : Ru) : Bool := decide (1 ≤ R.i ∧ R.i ≤ 999999) && decide (Pf.chk R.s R.sl = 0) && decide (Pf.chk R.d R.dl = 0) && okI R.p && okI R.q && okM R.m.1 R.m.2 && decide (1 ≤ R.act ∧ R.act ≤ 4)
theorem okR_iff (R : Ru) : okR R = true ↔ (1 ≤ R.i ∧ R.i ≤ 999999) ∧ Pf.chk R.s R.sl = 0 ∧ Pf.chk R.d R.dl = 0 ∧ okI R.p = true ∧ okI R.q = true ∧ okM R.m.1 R.m.2 = true ∧ (1 ≤ R.act ∧ R.act ≤ 4) := by
  unfold okR
  simp only [Bool.and_eq_true, decide_eq_true_eq, and_assoc]
def I64 (x : Int) : Prop := -9223372036854775808 ≤ x ∧ x ≤ 9223372036854775807
def BdR (R : Ru) : Prop := R.s < 4294967296 ∧ R.d < 4294967296 ∧ R.p.1 < 65536 ∧ R.p.2 < 65536 ∧ R.q.1 < 65536 ∧ R.q.2 < 65536 ∧ R.m.1 < 256 ∧ R.m.2 < 256 ∧ I64 R.i ∧ I64 R.sl ∧ I64 R.dl ∧ I64 R.act
def errI (i : Int) : Int := if 1 ≤ i ∧ i ≤ 999999 then 0 else 80
def errA (a : Int) : Int := if 1 ≤ a ∧ a ≤ 4 then 0 else 81
def errS (a b : Nat) : Int := if b < a then 30 else 0
/-- The first that is not nought, and its number. -/
def firstE : List Int → Int → Int × Int
  | [], _ => (0, 0)
  | e :: l, k => if e = 0 then firstE l (k + 1) else (e, k)
def errs (R : Ru) : Int × Int := firstE [errI R.i, Pf.chk R.s R.sl, Pf.chk R.d R.dl, errS R.p.1 R.p.2, errS R.q.1 R.q.2, chk R.m.1 R.m.2, errA R.act] 1
theorem errI_ok (i : Int) : errI i = 0 ↔ 1 ≤ i ∧ i ≤ 999999 := by unfold errI; split <;> simp_all
theorem errA_ok (i : Int) : errA i = 0 ↔ 1 ≤ i ∧ i ≤ 4 := by unfold errA; split <;> simp_all
theorem errS_ok (s : Nat × Nat) : errS s.1 s.2 = 0 ↔ okI s = true := by
  unfold errS okI
  split
  · rw [decide_eq_false (by omega)]; simp
  · rw [decide_eq_true (by omega)]; simp
theorem chkm_ok (v c : Nat) : chk v c = 0 ↔ okM v c = true := by
  unfold chk; cases okM v c <;> simp
theorem firstE_ok : ∀ (l : List Int) (k : Int), (firstE l k).1 = 0 ↔ ∀ e ∈ l, e = 0
  | [], k => by simp [firstE]
  | e :: l, k => by
    unfold firstE
    by_cases h : e = 0
    · rw [if_pos h, firstE_ok l (k + 1)]; simp [h]
    · rw [if_neg h]; simp [h]
theorem okR_err (R : Ru) : okR R = true ↔ (errs R).1 = 0 := by
  unfold errs
  rw [firstE_ok, okR_iff]
  simp only [List.mem_cons, List.not_mem_nil, or_false, forall_eq_or_imp, forall_eq, errI_ok, errA_ok, errS_ok, chkm_ok]
theorem firstE_at (l : List Int) : ∀ k : Int, (firstE l k).1 = 0 → (firstE l k).2 = 0 := by
  induction l with
  | nil => intro k _; rfl
  | cons e l ih =>
    intro k
    unfold firstE
    by_cases h : e = 0
    · rw [if_pos h]; exact ih (k + 1)
    · rw [if_neg h]; intro h'; exact absurd h' h
theorem errs_ok {R : Ru} (h : okR R = true) : errs R = (0, 0) := Prod.ext ((okR_err R).1 h) (firstE_at _ _ ((okR_err R).1 h))
theorem errs_no {R : Ru} (h : okR R = false) : (errs R).1 ≠ 0 := fun e => by rw [(okR_err R).2 e] at h; cases h
def matchR (R : Ru) (x : Hd) : Bool := okR R && (Pf.hasB R.s R.sl x.s && Pf.hasB R.d R.dl x.d && hasI R.p x.p && hasI R.q x.q && hasM R.m.1 R.m.2 x.r)
def allR (i a : Int) : Ru := ⟨i, 0, 0, 0, 0, (0, 65535), (0, 65535), (0, 0), a⟩
theorem match_in {R : Ru} (h : okR R = true) (x : Hd) : matchR R x = (Pf.hasB R.s R.sl x.s && Pf.hasB R.d R.dl x.d && hasI R.p x.p && hasI R.q x.q && hasM R.m.1 R.m.2 x.r) := by
  unfold matchR; rw [h, Bool.true_and]
theorem match_no {R : Ru} (h : okR R = false) (x : Hd) : matchR R x = false := by unfold matchR; rw [h]; rfl
theorem allR_ok (i a : Int) : okR (allR i a) = decide (1 ≤ i ∧ i ≤ 999999 ∧ 1 ≤ a ∧ a ≤ 4) := by
  rw [Bool.eq_iff_iff, okR_iff, decide_eq_true_eq]
  have h1 : Pf.chk 0 0 = 0 := by decide
  have h2 : okI (0, 65535) = true := by decide
  have h3 : okM 0 0 = true := by decide
  simp only [allR, h1, h2, h3, true_and]
  constructor
  · rintro ⟨⟨a1, a2⟩, a3, a4⟩; exact ⟨a1, a2, a3, a4⟩
  · rintro ⟨a1, a2, a3, a4⟩; exact ⟨⟨a1, a2⟩, a3, a4⟩
theorem allR_has (i a : Int) (h : Hd) (o : OkH h) : matchR (allR i a) h = decide (1 ≤ i ∧ i ≤ 999999 ∧ 1 ≤ a ∧ a ≤ 4) := by
  rw [← allR_ok]
  cases hk : okR (allR i a)
  · exact match_no hk h
  · rw [match_in hk]
    obtain ⟨o1, o2, o3, o4, o5⟩ := o
    have e1 : Pf.hasB 0 0 h.s = true := by
      rw [show (0 : Int) = ((0 : Nat) : Int) from rfl, Pf.hasB_in (by decide), decide_eq_true (Pf.ct_zero _ o1)]
    have e2 : Pf.hasB 0 0 h.d = true := by
      rw [show (0 : Int) = ((0 : Nat) : Int) from rfl, Pf.hasB_in (by decide), decide_eq_true (Pf.ct_zero _ o2)]
    have e3 : hasI (0, 65535) h.p = true := decide_eq_true (by simp only; omega)
    have e4 : hasI (0, 65535) h.q = true := decide_eq_true (by simp only; omega)
    have e5 : hasM 0 0 h.r = true := by simp [hasM]
    show (Pf.hasB 0 0 h.s && Pf.hasB 0 0 h.d && hasI (0, 65535) h.p && hasI (0, 65535) h.q && hasM 0 0 h.r) = true
    rw [e1, e2, e3, e4, e5]; rfl
end Go.Proofs.YtgidohnikggjfaaGreat
