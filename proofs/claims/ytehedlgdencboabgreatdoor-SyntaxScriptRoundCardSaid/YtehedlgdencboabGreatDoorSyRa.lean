/-
  Rules as numbers; what rule.Check tells of them; checkId, checkAction, span.Check; a rule in its block.
-/
import Derived.Test.YtehedlgdencboabGreatDoorMkA
import Derived.Test.YtehedlgdencboabGreatDoorPxA
import Derived.Test.YtehedlgdencboabGreatDoorBxY
import Derived.Test.YtehedlgdencboabGreatDoorSyPlK
namespace Go.Proofs.YtehedlgdencboabGreatDoor
open Go.RowKit
set_option linter.unusedVariables false
set_option linter.unusedSimpArgs false

/-- A rule: Id, Src (address, length), Dst, Sport, Dport, Proto, Action. -/
structure Ru where
  i : Int
  s : Nat
  sl : Int
  d : Nat
  dl : Int
  p : Nat × Nat
  q : Nat × Nat
  m : Nat × Nat
  act : Int
def I64 (x : Int) : Prop := -9223372036854775808 ≤ x ∧ x ≤ 9223372036854775807
def BdR (R : Ru) : Prop := R.s < 4294967296 ∧ R.d < 4294967296 ∧ R.p.1 < 65536 ∧ R.p.2 < 65536 ∧ R.q.1 < 65536 ∧ R.q.2 < 65536 ∧ R.m.1 < 256 ∧ R.m.2 < 256 ∧ I64 R.i ∧ I64 R.sl ∧ I64 R.dl ∧ I64 R.act
def errI (i : Int) : Int := if 1 ≤ i ∧ i ≤ 999999 then 0 else 80
def errA (a : Int) : Int := if 1 ≤ a ∧ a ≤ 4 then 0 else 81
def errS (a b : Nat) : Int := if b < a then 30 else 0
/-- The first that is not nought, and its number. -/
def firstE : List Int → Int → Int × Int
  | [], _ => (0, 0)
  | e :: l, k => if e = 0 then firstE l (k + 1) else (e, k)
def errs (R : Ru) : Int × Int := firstE [errI R.i, Pf.chk R.s R.sl, Pf.chk R.d R.dl, errS R.p.1 R.p.2, errS R.q.1 R.q.2, chk R.m.1 R.m.2, errA R.act] 1
theorem errI_ok (i : Int) : errI i = 0 ↔ 1 ≤ i ∧ i ≤ 999999 := by unfold errI; split <;> simp_all
theorem errA_ok (i : Int) : errA i = 0 ↔ 1 ≤ i ∧ i ≤ 4 := by unfold errA; split <;> simp_all
theorem errS_ok (a b : Nat) : errS a b = 0 ↔ a ≤ b := by unfold errS; split <;> omega
theorem chkm_ok (v c : Nat) : chk v c = 0 ↔ okM v c = true := by
  unfold chk; cases okM v c <;> simp
theorem firstE_ok : ∀ (l : List Int) (k : Int), (firstE l k).1 = 0 ↔ ∀ e ∈ l, e = 0
  | [], k => by simp [firstE]
  | e :: l, k => by
    unfold firstE
    by_cases h : e = 0
    · rw [if_pos h, firstE_ok l (k + 1)]; simp [h]
    · rw [if_neg h]; simp [h]
theorem firstE_at (l : List Int) : ∀ k : Int, (firstE l k).1 = 0 → (firstE l k).2 = 0 := by
  induction l with
  | nil => intro k _; rfl
  | cons e l ih =>
    intro k
    unfold firstE
    by_cases h : e = 0
    · rw [if_pos h]; exact ih (k + 1)
    · rw [if_neg h]; intro h'; exact absurd h' h
theorem firstE_bd : ∀ (l : List Int) (k : Int), (∀ e ∈ l, 0 ≤ e ∧ e ≤ 81) → 0 ≤ k → (0 ≤ (firstE l k).1 ∧ (firstE l k).1 ≤ 81) ∧ 0 ≤ (firstE l k).2 ∧ (firstE l k).2 ≤ k + l.length
  | [], k, h, hk => ⟨⟨Int.le_refl _, by show (0 : Int) ≤ 81; decide⟩, Int.le_refl _, by show (0 : Int) ≤ k + _; simp; exact hk⟩
  | e :: l, k, h, hk => by
    unfold firstE
    by_cases h0 : e = 0
    · rw [if_pos h0]
      have := firstE_bd l (k + 1) (fun x hx => h x (List.mem_cons_of_mem _ hx)) (by omega)
      simp only [List.length_cons]
      omega
    · rw [if_neg h0]
      have := h e (List.mem_cons_self ..)
      simp only [List.length_cons]
      omega
theorem errs_bd (R : Ru) : (0 ≤ (errs R).1 ∧ (errs R).1 ≤ 81) ∧ 0 ≤ (errs R).2 ∧ (errs R).2 ≤ 8 := by
  have := firstE_bd [errI R.i, Pf.chk R.s R.sl, Pf.chk R.d R.dl, errS R.p.1 R.p.2, errS R.q.1 R.q.2, chk R.m.1 R.m.2, errA R.act] 1 (by
    intro e he
    simp only [List.mem_cons, List.not_mem_nil, or_false] at he
    have c1 := Pf.chk_range R.s R.sl
    have c2 := Pf.chk_range R.d R.dl
    rcases he with rfl | rfl | rfl | rfl | rfl | rfl | rfl
    · unfold errI; split <;> omega
    · omega
    · omega
    · unfold errS; split <;> omega
    · unfold errS; split <;> omega
    · unfold chk; split <;> omega
    · unfold errA; split <;> omega) (by decide)
  exact this
/-- With an action that may be the field is none behind the sixth. -/
theorem errs_six {R : Ru} (h : 1 ≤ R.act ∧ R.act ≤ 4) : (errs R).2 ≤ 6 := by
  have ha : errA R.act = 0 := (errA_ok _).2 h
  unfold errs
  rw [ha]
  unfold firstE firstE firstE firstE firstE firstE firstE firstE
  (repeat' split) <;> first | decide | (simp only; omega)
theorem errs_pos {R : Ru} (h : (errs R).1 ≠ 0) : 1 ≤ (errs R).2 := by
  unfold errs firstE firstE firstE firstE firstE firstE firstE firstE at h ⊢
  (repeat' split) <;> first | decide | (simp only; omega) | (exfalso; simp_all)
/-- A rule as it is read. -/
def ruOf (R : Rp) : Ru := ⟨(R.i : Int), R.s.1, (R.s.2 : Int), R.d.1, (R.d.2 : Int), R.p, R.q, R.m, (R.t : Int)⟩
def chkN (R : Rp) : Nat × Nat := ((errs (ruOf R)).1.toNat, (errs (ruOf R)).2.toNat)
theorem BdRp.bd {R : Rp} (h : BdRp R) : BdR (ruOf R) := by
  obtain ⟨h1, h2, h3, h4, h5, h6, h7⟩ := h
  refine ⟨h3.1, h4.1, ?_, ?_, ?_, ?_, ?_, ?_, ?_, ?_, ?_, ?_⟩ <;> first | (show _ < _; simp only [ruOf]; omega) | (unfold I64; simp only [ruOf]; omega)
theorem and0 {v : Nat} (h : v &&& 0 = v) : v = 0 := by simpa using h.symm
theorem mod_big {a : Nat} (h : a < 4294967296) (h' : a % Pf.bk 0 = 0) : a = 0 := by
  rw [show Pf.bk 0 = 4294967296 by decide, Nat.mod_eq_of_lt h] at h'
  exact h'
theorem pf_ok {a n : Nat} (ha : a < 4294967296) (h : Pf.chk a (n : Int) = 0) : n ≤ 32 ∧ (n = 0 → a = 0) := by
  obtain ⟨m, e, hm, h0⟩ := Pf.chk_ok h
  have e' : n = m := by omega
  subst e'
  exact ⟨hm, fun h => by subst h; exact mod_big ha h0⟩
/-- What may be, of what is read. -/
theorem chk_okRp (R : Rp) (b : BdRp R) (h : (chkN R).1 = 0) : OkRp R := by
  have h0 : (errs (ruOf R)).1 = 0 := by have := (errs_bd (ruOf R)).1; simp only [chkN] at h; omega
  unfold errs at h0
  rw [firstE_ok] at h0
  simp only [List.mem_cons, List.not_mem_nil, or_false, forall_eq_or_imp, forall_eq, errI_ok, errA_ok, errS_ok, chkm_ok] at h0
  obtain ⟨g1, g2, g3, g4, g5, g6, g7⟩ := h0
  obtain ⟨b1, b2, b3, b4, b5, b6, b7⟩ := b
  have q2 := pf_ok b3.1 g2
  have q3 := pf_ok b4.1 g3
  refine ⟨b1, ?_, ⟨b3.1, q2.1, q2.2⟩, ⟨b4.1, q3.1, q3.2⟩, b5, b6, ⟨b7.1, b7.2, fun e => ?_⟩⟩
  · simp only [ruOf] at g7; omega
  · have : R.m.1 &&& R.m.2 = R.m.1 := of_decide_eq_true g6
    rw [e] at this
    exact and0 this
theorem blk12 {w : World} {B : Nat} {v0 v1 v2 v3 v4 v5 v6 v7 v8 v9 v10 v11 : Value} {t : TypeId} {fr : Nat × Nat} (h : w.heap[B]? = some (.cells #[v0, v1, v2, v3, v4, v5, v6, v7, v8, v9, v10, v11] t fr)) :
    w.cell? ⟨B, 0, none⟩ = some v0 ∧ w.cell? ⟨B, 1, none⟩ = some v1 ∧ w.cell? ⟨B, 2, none⟩ = some v2 ∧ w.cell? ⟨B, 3, none⟩ = some v3 ∧ w.cell? ⟨B, 4, none⟩ = some v4 ∧ w.cell? ⟨B, 5, none⟩ = some v5 ∧ w.cell? ⟨B, 6, none⟩ = some v6 ∧ w.cell? ⟨B, 7, none⟩ = some v7 ∧ w.cell? ⟨B, 8, none⟩ = some v8 ∧ w.cell? ⟨B, 9, none⟩ = some v9 ∧ w.cell? ⟨B, 10, none⟩ = some v10 ∧ w.cell? ⟨B, 11, none⟩ = some v11 :=
  ⟨blk_cell h rfl, blk_cell h rfl, blk_cell h rfl, blk_cell h rfl, blk_cell h rfl, blk_cell h rfl, blk_cell h rfl, blk_cell h rfl, blk_cell h rfl, blk_cell h rfl, blk_cell h rfl, blk_cell h rfl⟩
theorem blk2 {w : World} {B : Nat} {v0 v1 : Value} {t : TypeId} {fr : Nat × Nat} (h : w.heap[B]? = some (.cells #[v0, v1] t fr)) : w.cell? ⟨B, 0, none⟩ = some v0 ∧ w.cell? ⟨B, 1, none⟩ = some v1 := ⟨blk_cell h rfl, blk_cell h rfl⟩
theorem checkIdC (i : Int) (w : World) :
    Calls Tryz.prog 42 #[.int .i64 i] w fun e w' => e = .returned (.int .i64 (errI i)) ∧ Below w.heap.size w w' := by
  by_cases h1 : i < 1
  · rw [show errI i = 80 from if_neg (by omega)]
    go_enter Tryz.func42, Tryz.ntmps42
    go_wp2
    go_ret
    exact ⟨rfl, by (repeat (first | assumption | exact Below.refl _ _ | refine Below.drew ?_ | refine bel_drewN ?_ _ | refine Below.setCell ?_ (by first | omega | (simp; done) | (simp; omega)) _ | refine Below.alloc ?_ (by first | omega | (simp; done) | (simp; omega)) _ | refine bel_of ?_ (by assumption)))⟩
  · by_cases h2 : 999999 < i
    · rw [show errI i = 80 from if_neg (by omega)]
      go_enter Tryz.func42, Tryz.ntmps42
      go_wp2
      go_ret
      exact ⟨rfl, by (repeat (first | assumption | exact Below.refl _ _ | refine Below.drew ?_ | refine bel_drewN ?_ _ | refine Below.setCell ?_ (by first | omega | (simp; done) | (simp; omega)) _ | refine Below.alloc ?_ (by first | omega | (simp; done) | (simp; omega)) _ | refine bel_of ?_ (by assumption)))⟩
    · rw [show errI i = 0 from if_pos (by omega)]
      go_enter Tryz.func42, Tryz.ntmps42
      go_wp2
      go_ret
      exact ⟨rfl, by (repeat (first | assumption | exact Below.refl _ _ | refine Below.drew ?_ | refine bel_drewN ?_ _ | refine Below.setCell ?_ (by first | omega | (simp; done) | (simp; omega)) _ | refine Below.alloc ?_ (by first | omega | (simp; done) | (simp; omega)) _ | refine bel_of ?_ (by assumption)))⟩
theorem checkActC (a : Int) (w : World) :
    Calls Tryz.prog 46 #[.int .i64 a] w fun e w' => e = .returned (.int .i64 (errA a)) ∧ Below w.heap.size w w' := by
  by_cases h : 1 ≤ a ∧ a ≤ 4
  · rw [show errA a = 0 from if_pos h]
    obtain rfl | rfl | rfl | rfl : a = 1 ∨ a = 2 ∨ a = 3 ∨ a = 4 := by omega
    all_goals
      clear h
      go_enter Tryz.func46, Tryz.ntmps46
      go_wp2
      go_ret
      exact ⟨rfl, by (repeat (first | assumption | exact Below.refl _ _ | refine Below.drew ?_ | refine bel_drewN ?_ _ | refine Below.setCell ?_ (by first | omega | (simp; done) | (simp; omega)) _ | refine Below.alloc ?_ (by first | omega | (simp; done) | (simp; omega)) _ | refine bel_of ?_ (by assumption)))⟩
  · rw [show errA a = 81 from if_neg h]
    have n1 : ¬ a = 1 := by omega
    have n2 : ¬ a = 2 := by omega
    have n3 : ¬ a = 3 := by omega
    have n4 : ¬ a = 4 := by omega
    clear h
    go_enter Tryz.func46, Tryz.ntmps46
    go_wp2
    go_ret
    exact ⟨rfl, by (repeat (first | assumption | exact Below.refl _ _ | refine Below.drew ?_ | refine bel_drewN ?_ _ | refine Below.setCell ?_ (by first | omega | (simp; done) | (simp; omega)) _ | refine Below.alloc ?_ (by first | omega | (simp; done) | (simp; omega)) _ | refine bel_of ?_ (by assumption)))⟩
theorem checkSp (a b : Nat) (w : World) :
    Calls Tryz.prog 44 #[.agg #[.int .u16 a, .int .u16 b]] w fun e w' => e = .returned (.int .i64 (errS a b)) ∧ Below w.heap.size w w' := by
  by_cases h : b < a
  · rw [show errS a b = 30 from if_pos h]
    have h' : (b : Int) < (a : Int) := by omega
    clear h
    go_enter Tryz.func44, Tryz.ntmps44
    go_wp2
    go_ret
    exact ⟨rfl, by (repeat (first | assumption | exact Below.refl _ _ | refine Below.drew ?_ | refine bel_drewN ?_ _ | refine Below.setCell ?_ (by first | omega | (simp; done) | (simp; omega)) _ | refine Below.alloc ?_ (by first | omega | (simp; done) | (simp; omega)) _ | refine bel_of ?_ (by assumption)))⟩
  · rw [show errS a b = 0 from if_neg h]
    have h' : ¬ (b : Int) < (a : Int) := by omega
    clear h
    go_enter Tryz.func44, Tryz.ntmps44
    go_wp2
    go_ret
    exact ⟨rfl, by (repeat (first | assumption | exact Below.refl _ _ | refine Below.drew ?_ | refine bel_drewN ?_ _ | refine Below.setCell ?_ (by first | omega | (simp; done) | (simp; omega)) _ | refine Below.alloc ?_ (by first | omega | (simp; done) | (simp; omega)) _ | refine bel_of ?_ (by assumption)))⟩
end Go.Proofs.YtehedlgdencboabGreatDoor
