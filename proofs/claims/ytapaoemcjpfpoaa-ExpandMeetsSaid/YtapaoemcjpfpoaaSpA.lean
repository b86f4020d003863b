/-
  What the small functions of package span hand back: one contract a function, for every world; each makes memory of its own alone.
-/
import Derived.Test.YtapaoemcjpfpoaaProg
import Derived.Test.YtapaoemcjpfpoaaSpPlain
import Derived.Test.YtapaoemcjpfpoaaPxKin
namespace Go.Proofs.Ytapaoemcjpfpoaa
open Go.RowKit
set_option linter.unusedVariables false
set_option linter.unusedSimpArgs false

def chkS (a b : Nat) : Int := if b < a then 30 else 0
theorem checkS (a b : Nat) (w : World) :
    Calls Try.prog 37 #[.agg #[.int .u16 a, .int .u16 b]] w fun e w' => e = .returned (.int .i64 (chkS a b)) ∧ Below w.heap.size w w' := by
  by_cases h : b < a
  · rw [show chkS a b = 30 from if_pos h]
    have h' : (b : Int) < (a : Int) := by omega
    clear h
    go_enter Try.func37, Try.ntmps37
    go_wp2
    go_ret
    exact ⟨rfl, by (repeat (first | assumption | exact Below.refl _ _ | refine Below.drew ?_ | refine bel_drewN ?_ _ | refine Below.setCell ?_ (by first | omega | (simp; done) | (simp; omega)) _ | refine Below.alloc ?_ (by first | omega | (simp; done) | (simp; omega)) _ | refine bel_of ?_ (by assumption)))⟩
  · rw [show chkS a b = 0 from if_neg h]
    have h' : ¬ (b : Int) < (a : Int) := by omega
    clear h
    go_enter Try.func37, Try.ntmps37
    go_wp2
    go_ret
    exact ⟨rfl, by (repeat (first | assumption | exact Below.refl _ _ | refine Below.drew ?_ | refine bel_drewN ?_ _ | refine Below.setCell ?_ (by first | omega | (simp; done) | (simp; omega)) _ | refine Below.alloc ?_ (by first | omega | (simp; done) | (simp; omega)) _ | refine bel_of ?_ (by assumption)))⟩
theorem hasS (a b i : Nat) (w : World) :
    Calls Try.prog 30 #[.agg #[.int .u16 a, .int .u16 b], .int .u16 i] w fun e w' => e = .returned (.bool (hasB (a, b) i)) ∧ Below w.heap.size w w' := by
  have he : hasB (a, b) i = (decide (a ≤ i) && decide (i ≤ b)) := rfl
  rw [he]
  clear he
  by_cases h : a ≤ i
  · rw [decide_eq_true h, Bool.true_and]
    have d1 : decide (a ≤ i) = true := decide_eq_true h
    clear h
    go_enter Try.func30, Try.ntmps30
    go_wp2
    go_ret
    exact ⟨rfl, by (repeat (first | assumption | exact Below.refl _ _ | refine Below.drew ?_ | refine bel_drewN ?_ _ | refine Below.setCell ?_ (by first | omega | (simp; done) | (simp; omega)) _ | refine Below.alloc ?_ (by first | omega | (simp; done) | (simp; omega)) _ | refine bel_of ?_ (by assumption)))⟩
  · rw [decide_eq_false h, Bool.false_and]
    have d1 : decide (a ≤ i) = false := decide_eq_false h
    clear h
    go_enter Try.func30, Try.ntmps30
    go_wp2
    go_ret
    exact ⟨rfl, by (repeat (first | assumption | exact Below.refl _ _ | refine Below.drew ?_ | refine bel_drewN ?_ _ | refine Below.setCell ?_ (by first | omega | (simp; done) | (simp; omega)) _ | refine Below.alloc ?_ (by first | omega | (simp; done) | (simp; omega)) _ | refine bel_of ?_ (by assumption)))⟩
def cntS (a b : Nat) : Nat := b + 1 - a
theorem countS (a b : Nat) (w : World) (ha : a < 65536) (hb : b < 65536) :
    Calls Try.prog 28 #[.agg #[.int .u16 a, .int .u16 b]] w fun e w' => e = .returned (.int .i64 (cntS a b : Int)) ∧ Below w.heap.size w w' := by
  by_cases h : b < a
  · have hk : chkS a b = 30 := if_pos h
    have hc : cntS a b = 0 := by unfold cntS; omega
    rw [hc]
    have H : Hid (chkS a b = 30) := hk
    clear h hk hc
    go_enter Try.func28, Try.ntmps28
    go_wp2_with (go_at_call 37; refine (checkS a b _).mono ?_; rw [H.out]; rintro e w1 ⟨rfl, hb1⟩)
    go_ret
    exact ⟨rfl, by (repeat (first | assumption | exact Below.refl _ _ | refine Below.drew ?_ | refine bel_drewN ?_ _ | refine Below.setCell ?_ (by first | omega | (simp; done) | (simp; omega)) _ | refine Below.alloc ?_ (by first | omega | (simp; done) | (simp; omega)) _ | refine bel_of ?_ (by assumption)))⟩
  · have hk : chkS a b = 0 := if_neg h
    have hc : (cntS a b : Int) = (b : Int) - (a : Int) + 1 := by unfold cntS; omega
    rw [hc]
    have H : Hid (chkS a b = 0) := hk
    have h' : (a : Int) ≤ (b : Int) := by omega
    clear h hk hc
    go_enter Try.func28, Try.ntmps28
    go_wp2_with (go_at_call 37; refine (checkS a b _).mono ?_; rw [H.out]; rintro e w1 ⟨rfl, hb1⟩; obtain ⟨hc1, hf1⟩ := bcell hb1; have hz1 := hb1.size; simp at hz1; have hl1 : w.heap.size < w1.heap.size := by omega)
    go_ret
    exact ⟨rfl, by (repeat (first | assumption | exact Below.refl _ _ | refine Below.drew ?_ | refine bel_drewN ?_ _ | refine Below.setCell ?_ (by first | omega | (simp; done) | (simp; omega)) _ | refine Below.alloc ?_ (by first | omega | (simp; done) | (simp; omega)) _ | refine bel_of ?_ (by assumption)))⟩
theorem reachesS (a b c d : Nat) (w : World) (hb : b < 65536) (hc : c < 65536) :
    Calls Try.prog 48 #[.agg #[.int .u16 a, .int .u16 b], .agg #[.int .u16 c, .int .u16 d]] w fun e w' => e = .returned (.bool (decide (c ≤ b + 1))) ∧ Below w.heap.size w w' := by
  have he : decide (c ≤ b + 1) = decide ((c : Int) ≤ (b : Int) + 1) := by rw [decide_eq_decide]; omega
  rw [he]
  clear he
  have hb' : (b : Int) < 65536 := by omega
  have hc' : (c : Int) < 65536 := by omega
  go_enter Try.func48, Try.ntmps48
  go_wp2
  go_ret
  exact ⟨rfl, by (repeat (first | assumption | exact Below.refl _ _ | refine Below.drew ?_ | refine bel_drewN ?_ _ | refine Below.setCell ?_ (by first | omega | (simp; done) | (simp; omega)) _ | refine Below.alloc ?_ (by first | omega | (simp; done) | (simp; omega)) _ | refine bel_of ?_ (by assumption)))⟩
end Go.Proofs.Ytapaoemcjpfpoaa
