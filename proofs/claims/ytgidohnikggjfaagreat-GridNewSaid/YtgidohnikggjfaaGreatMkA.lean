/-
  What the small functions of package mask, and of the document's answer, hand back: one contract a function, for every world; each makes memory of its own alone.
-/
import Derived.Test.YtgidohnikggjfaaGreatProg
import Derived.Test.YtgidohnikggjfaaGreatMkPlB
import Derived.Test.YtgidohnikggjfaaGreatPxKin
namespace Go.Proofs.YtgidohnikggjfaaGreat
open Go.RowKit
set_option linter.unusedVariables false
set_option linter.unusedSimpArgs false

def chk (v c : Nat) : Int := if okM v c then 0 else 40
theorem chk_ok {v c : Nat} (h : okM v c = true) : chk v c = 0 := by unfold chk; rw [if_pos h]
theorem chk_no {v c : Nat} (h : okM v c = false) : chk v c = 40 := by unfold chk; rw [h]; rfl
theorem checkM (v c : Nat) (w : World) (hv : v < 256) (hc : c < 256) :
    Calls Tryz.prog 84 #[.agg #[.int .u8 v, .int .u8 c]] w fun e w' => e = .returned (.int .i64 (chk v c)) ∧ Below w.heap.size w w' := by
  cases h : okM v c
  · have h' : ¬ bits .andNot .u8 (v : Int) (c : Int) = 0 := by
      rw [u8_andNot_nat _ _ hv hc]
      intro e
      have : v &&& (255 - c) = 0 := by omega
      rw [ok_andNot hc hv, h] at this; cases this
    rw [chk_no h]
    clear h
    go_enter Tryz.func84, Tryz.ntmps84
    go_wp2
    go_ret
    exact ⟨rfl, by (repeat (first | assumption | exact Below.refl _ _ | refine Below.drew ?_ | refine bel_drewN ?_ _ | refine Below.setCell ?_ (by first | omega | (simp; done) | (simp; omega)) _ | refine Below.alloc ?_ (by first | omega | (simp; done) | (simp; omega)) _ | refine bel_of ?_ (by assumption)))⟩
  · have h' : bits .andNot .u8 (v : Int) (c : Int) = 0 := by
      rw [u8_andNot_nat _ _ hv hc, (ok_andNot hc hv).2 h]; rfl
    rw [chk_ok h]
    clear h
    go_enter Tryz.func84, Tryz.ntmps84
    go_wp2
    go_ret
    exact ⟨rfl, by (repeat (first | assumption | exact Below.refl _ _ | refine Below.drew ?_ | refine bel_drewN ?_ _ | refine Below.setCell ?_ (by first | omega | (simp; done) | (simp; omega)) _ | refine Below.alloc ?_ (by first | omega | (simp; done) | (simp; omega)) _ | refine bel_of ?_ (by assumption)))⟩
theorem hasC (v c p : Nat) (w : World) (hp : p < 256) (hc : c < 256) :
    Calls Tryz.prog 59 #[.agg #[.int .u8 v, .int .u8 c], .int .u8 p] w fun e w' => e = .returned (.bool (hasM v c p)) ∧ Below w.heap.size w w' := by
  go_enter Tryz.func59, Tryz.ntmps59
  go_wp2
  go_ret
  refine ⟨ret_same ?_, by (repeat (first | assumption | exact Below.refl _ _ | refine Below.drew ?_ | refine bel_drewN ?_ _ | refine Below.setCell ?_ (by first | omega | (simp; done) | (simp; omega)) _ | refine Below.alloc ?_ (by first | omega | (simp; done) | (simp; omega)) _ | refine bel_of ?_ (by assumption)))⟩
  rw [u8_and_nat _ _ hp hc]
  unfold hasM
  rw [Bool.eq_iff_iff]
  simp <;> omega
theorem bitM (a i : Nat) (w : World) (ha : a < 256) (hi : i ≤ 7) :
    Calls Tryz.prog 80 #[.int .u8 a, .int .i64 i] w fun e w' => e = .returned (.int .i64 (tb a i : Int)) ∧ w' = w := by
  go_enter Tryz.func80, Tryz.ntmps80
  go_wp2
  go_ret
  refine ⟨ret_int ?_, rfl⟩
  have e : (a : Int) / 2 ^ (7 - i) = ((a / 2 ^ (7 - i) : Nat) : Int) := by simp
  have l : a / 2 ^ (7 - i) ≤ a := Nat.div_le_self _ _
  rw [e]
  unfold tb
  generalize a / 2 ^ (7 - i) = y at l
  rw [show wrap64 (y : Int) = (y : Int) by unfold wrap64; omega, Int.tmod_eq_emod_of_nonneg (by omega)]
  omega
theorem ones_le8 (x : Nat) (hx : x < 256) : Lib.onesCount x ≤ 8 := Lib.onesCount_le8 ⟨x, hx⟩
end Go.Proofs.YtgidohnikggjfaaGreat
