/-
  Rules: the box of a rule; what it holds; how many. No program is named here. (PxPlain is laid with NS=Pf.)
-/
import Derived.Test.YtebljklpkoheaaaGreatBxPlD
import Derived.Test.YtebljklpkoheaaaGreatPxPlain
namespace Go.Proofs.YtebljklpkoheaaaGreat
set_option linter.unusedVariables false

/-- A rule: Id, Src (address, length), Dst, Sport, Dport, Proto, Action. -/
structure Ru where
  i : Int
  s : Nat
  sl : Int
  d : Nat
  dl : Int
  p : Nat × Nat
  q : Nat × Nat
  m : Nat × Nat
  act : Int
  deriving DecidableEq
def okR (R : Ru) : Bool := decide (1 ≤ R.i ∧ R.i ≤ 999999) && decide (Pf.chk R.s R.sl = 0) && decide (Pf.chk R.d R.dl = 0) && okI R.p && okI R.q && okM R.m.1 R.m.2 && decide (1 ≤ R.act ∧ R.act ≤ 4)
/-- The numbers that begin alike, from .. to. -/
def runP (a : Nat) (n : Int) : Nat × Nat := (a, a + (Pf.bk n.toNat - 1))
def boxR (R : Ru) : Bx := ⟨runP R.s R.sl, runP R.d R.dl, R.p, R.q, R.m⟩
theorem okR_iff (R : Ru) : okR R = true ↔ (1 ≤ R.i ∧ R.i ≤ 999999) ∧ Pf.chk R.s R.sl = 0 ∧ Pf.chk R.d R.dl = 0 ∧ okI R.p = true ∧ okI R.q = true ∧ okM R.m.1 R.m.2 = true ∧ (1 ≤ R.act ∧ R.act ≤ 4) := by
  unfold okR
  simp only [Bool.and_eq_true, decide_eq_true_eq, and_assoc]
theorem okI_run (a : Nat) (n : Int) : okI (runP a n) = true := decide_eq_true (Nat.le_add_right _ _)
theorem okX_box {R : Ru} (h : okR R = true) : okX (boxR R) = true := by
  obtain ⟨_, _, _, h4, h5, h6, _⟩ := (okR_iff R).1 h
  exact (okX_iff _).2 ⟨okI_run _ _, okI_run _ _, h4, h5, h6⟩
theorem cntI_run (a : Nat) (n : Int) : cntI (runP a n) = Pf.bk n.toNat := by
  have := Pf.bk_pos n.toNat
  unfold cntI runP
  simp only
  omega
theorem ct_between {a x n : Nat} (h : a % Pf.bk n = 0) : Pf.ct x n = a ↔ a ≤ x ∧ x ≤ a + (Pf.bk n - 1) := by
  have hp := Pf.bk_pos n
  have h1 := Pf.ct_add x n
  have h2 := Nat.mod_lt x hp
  constructor
  · intro e; omega
  · rintro ⟨e1, e2⟩
    have h3 := Pf.ct_mod x n
    generalize Pf.bk n = b at *
    obtain ⟨u, rfl⟩ : ∃ u, a = b * u := ⟨a / b, by have := Nat.div_add_mod a b; rw [h] at this; omega⟩
    obtain ⟨v, hv⟩ : ∃ v, Pf.ct x n = b * v := ⟨Pf.ct x n / b, by have := Nat.div_add_mod (Pf.ct x n) b; rw [h3] at this; omega⟩
    rw [hv] at h1 ⊢
    have l1 : b * v < b * (u + 1) := by rw [Nat.mul_add]; omega
    have l2 : b * u < b * (v + 1) := by rw [Nat.mul_add]; omega
    have m1 := Nat.lt_of_mul_lt_mul_left l1
    have m2 := Nat.lt_of_mul_lt_mul_left l2
    rw [show v = u by omega]
theorem hasI_run {a : Nat} {n : Int} (h : Pf.chk a n = 0) (x : Nat) : hasI (runP a n) x = Pf.hasB a n x := by
  obtain ⟨m, rfl, hm, h0⟩ := Pf.chk_ok h
  rw [Pf.hasB_in h]
  unfold hasI runP
  simp only [Int.toNat_natCast]
  rw [decide_eq_decide]
  exact (ct_between h0).symm
/-- A rule that may be matches just what its box has. -/
theorem has_box {R : Ru} (h : okR R = true) (s d p q r : Nat) : hasX (boxR R) s d p q r = (Pf.hasB R.s R.sl s && Pf.hasB R.d R.dl d && hasI R.p p && hasI R.q q && hasM R.m.1 R.m.2 r) := by
  obtain ⟨_, h2, h3, _⟩ := (okR_iff R).1 h
  unfold hasX
  rw [okX_box h, Bool.true_and]
  show (hasI (runP R.s R.sl) s && hasI (runP R.d R.dl) d && _ && _ && _) = _
  rw [hasI_run h2, hasI_run h3]
  rfl
/-- How many. -/
theorem cnt_box {R : Ru} (h : okR R = true) : cntX (boxR R) = cntI R.p * cntI R.q * cntM R.m.1 R.m.2 * (Pf.bk R.sl.toNat * Pf.bk R.dl.toNat) := by
  unfold cntX
  rw [if_pos (okX_box h)]
  show cntI (runP R.s R.sl) * cntI (runP R.d R.dl) * cntI R.p * cntI R.q * cntM R.m.1 R.m.2 = _
  rw [cntI_run, cntI_run]
  simp only [Nat.mul_assoc, Nat.mul_comm, Nat.mul_left_comm]
theorem bk_two {m n : Nat} (hm : m ≤ 32) (hn : n ≤ 32) : Pf.bk m * Pf.bk n = 2 ^ (64 - (m + n)) := by
  unfold Pf.bk
  rw [← Nat.pow_add]
  congr 1
  omega
end Go.Proofs.YtebljklpkoheaaaGreat
