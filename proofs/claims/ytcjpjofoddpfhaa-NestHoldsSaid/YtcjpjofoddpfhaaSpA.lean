/-
  What the small functions of package span hand back: one contract a function, for every world; each makes memory of its own alone.
-/
import Derived.Test.YtcjpjofoddpfhaaProg
import Derived.Test.YtcjpjofoddpfhaaSpPlain
import Derived.Test.YtcjpjofoddpfhaaPxKin
namespace Go.Proofs.Ytcjpjofoddpfhaa.Xp
open Go.RowKit
set_option linter.unusedVariables false
set_option linter.unusedSimpArgs false

def chkS (a b : Nat) : Int := if b < a then 30 else 0
theorem checkS (a b : Nat) (w : World) :
    Calls Try.prog 17 #[.agg #[.int .u16 a, .int .u16 b]] w fun e w' => e = .returned (.int .i64 (chkS a b)) ∧ Below w.heap.size w w' := by
  by_cases h : b < a
  · rw [show chkS a b = 30 from if_pos h]
    have h' : (b : Int) < (a : Int) := by omega
    clear h
    go_enter Try.func17, Try.ntmps17
    go_wp2
    go_ret
    exact ⟨rfl, by (repeat (first | assumption | exact Below.refl _ _ | refine Below.drew ?_ | refine bel_drewN ?_ _ | refine Below.setCell ?_ (by first | omega | (simp; done) | (simp; omega)) _ | refine Below.alloc ?_ (by first | omega | (simp; done) | (simp; omega)) _ | refine bel_of ?_ (by assumption)))⟩
  · rw [show chkS a b = 0 from if_neg h]
    have h' : ¬ (b : Int) < (a : Int) := by omega
    clear h
    go_enter Try.func17, Try.ntmps17
    go_wp2
    go_ret
    exact ⟨rfl, by (repeat (first | assumption | exact Below.refl _ _ | refine Below.drew ?_ | refine bel_drewN ?_ _ | refine Below.setCell ?_ (by first | omega | (simp; done) | (simp; omega)) _ | refine Below.alloc ?_ (by first | omega | (simp; done) | (simp; omega)) _ | refine bel_of ?_ (by assumption)))⟩
theorem hasS (a b i : Nat) (w : World) :
    Calls Try.prog 21 #[.agg #[.int .u16 a, .int .u16 b], .int .u16 i] w fun e w' => e = .returned (.bool (hasB (a, b) i)) ∧ Below w.heap.size w w' := by
  have he : hasB (a, b) i = (decide (a ≤ i) && decide (i ≤ b)) := rfl
  rw [he]
  clear he
  by_cases h : a ≤ i
  · rw [decide_eq_true h, Bool.true_and]
    have d1 : decide (a ≤ i) = true := decide_eq_true h
    clear h
    go_enter Try.func21, Try.ntmps21
    go_wp2
    go_ret
    exact ⟨rfl, by (repeat (first | assumption | exact Below.refl _ _ | refine Below.drew ?_ | refine bel_drewN ?_ _ | refine Below.setCell ?_ (by first | omega | (simp; done) | (simp; omega)) _ | refine Below.alloc ?_ (by first | omega | (simp; done) | (simp; omega)) _ | refine bel_of ?_ (by assumption)))⟩
  · rw [decide_eq_false h, Bool.false_and]
    have d1 : decide (a ≤ i) = false := decide_eq_false h
    clear h
    go_enter Try.func21, Try.ntmps21
    go_wp2
    go_ret
    exact ⟨rfl, by (repeat (first | assumption | exact Below.refl _ _ | refine Below.drew ?_ | refine bel_drewN ?_ _ | refine Below.setCell ?_ (by first | omega | (simp; done) | (simp; omega)) _ | refine Below.alloc ?_ (by first | omega | (simp; done) | (simp; omega)) _ | refine bel_of ?_ (by assumption)))⟩
def cntS (a b : Nat) : Nat := b + 1 - a
end Go.Proofs.Ytcjpjofoddpfhaa.Xp
