/-
  Boxes: what Check of the document's answer hands back.
-/
import Derived.Test.YthggiblkehcfaaaMkB
import Derived.Test.YthggiblkehcfaaaBxPlD
namespace Go.Proofs.Ythggiblkehcfaaa
open Go.RowKit
set_option linter.unusedVariables false
set_option linter.unusedSimpArgs false

def chkX (X : Bx) : Int := if okI X.a && okI X.b then (if okI X.c && okI X.d then (if okM X.m.1 X.m.2 then 0 else 40) else 30) else 70
theorem chkX_ok {X : Bx} : chkX X = 0 ↔ okX X = true := by
  unfold chkX okX
  cases okI X.a <;> cases okI X.b <;> cases okI X.c <;> cases okI X.d <;> cases okM X.m.1 X.m.2 <;> simp
theorem gt_yes {s : Nat × Nat} (h : okI s = false) : decide (s.2 < s.1) = true := by
  have := of_decide_eq_false h
  exact decide_eq_true (by omega)
theorem gt_no {s : Nat × Nat} (h : okI s = true) : decide (s.2 < s.1) = false := by
  have := of_decide_eq_true h
  exact decide_eq_false (by omega)
set_option maxHeartbeats 1000000 in
theorem rcheckX (X : Bx) (w : World) (b : BdX X) :
    Calls Try.prog 14 #[.agg #[.int .u32 (X.a.1 : Int), .int .u32 (X.a.2 : Int), .int .u32 (X.b.1 : Int), .int .u32 (X.b.2 : Int), .int .u16 (X.c.1 : Int), .int .u16 (X.c.2 : Int), .int .u16 (X.d.1 : Int), .int .u16 (X.d.2 : Int), .int .u8 (X.m.1 : Int), .int .u8 (X.m.2 : Int)]] w fun e w' => e = .returned (.int .i64 (chkX X)) ∧ Below w.heap.size w w' := by
  have hM := fun W => rcheckM X.m.1 X.m.2 W b.2.2.2.2.2.2.2.2.1 b.2.2.2.2.2.2.2.2.2
  clear b
  cases ha : okI X.a
  · rw [show chkX X = 70 by unfold chkX; rw [ha]; rfl]
    have ga := gt_yes ha
    clear hM ha
    go_enter Try.func14, Try.ntmps14
    go_wp2
    go_ret
    exact ⟨rfl, by (repeat (first | assumption | exact Below.refl _ _ | refine Below.drew ?_ | refine bel_drewN ?_ _ | refine Below.setCell ?_ (by first | omega | (simp; done) | (simp; omega)) _ | refine Below.alloc ?_ (by first | omega | (simp; done) | (simp; omega)) _ | refine bel_of ?_ (by assumption)))⟩
  · cases hb : okI X.b
    · rw [show chkX X = 70 by unfold chkX; rw [ha, hb]; rfl]
      have ga := gt_no ha
      have gb := gt_yes hb
      clear hM ha hb
      go_enter Try.func14, Try.ntmps14
      go_wp2
      go_ret
      exact ⟨rfl, by (repeat (first | assumption | exact Below.refl _ _ | refine Below.drew ?_ | refine bel_drewN ?_ _ | refine Below.setCell ?_ (by first | omega | (simp; done) | (simp; omega)) _ | refine Below.alloc ?_ (by first | omega | (simp; done) | (simp; omega)) _ | refine bel_of ?_ (by assumption)))⟩
    · cases hc : okI X.c
      · rw [show chkX X = 30 by unfold chkX; rw [ha, hb, hc]; rfl]
        have ga := gt_no ha
        have gb := gt_no hb
        have gc := gt_yes hc
        clear hM ha hb hc
        go_enter Try.func14, Try.ntmps14
        go_wp2
        go_ret
        exact ⟨rfl, by (repeat (first | assumption | exact Below.refl _ _ | refine Below.drew ?_ | refine bel_drewN ?_ _ | refine Below.setCell ?_ (by first | omega | (simp; done) | (simp; omega)) _ | refine Below.alloc ?_ (by first | omega | (simp; done) | (simp; omega)) _ | refine bel_of ?_ (by assumption)))⟩
      · cases hd : okI X.d
        · rw [show chkX X = 30 by unfold chkX; rw [ha, hb, hc, hd]; rfl]
          have ga := gt_no ha
          have gb := gt_no hb
          have gc := gt_no hc
          have gd := gt_yes hd
          clear hM ha hb hc hd
          go_enter Try.func14, Try.ntmps14
          go_wp2
          go_ret
          exact ⟨rfl, by (repeat (first | assumption | exact Below.refl _ _ | refine Below.drew ?_ | refine bel_drewN ?_ _ | refine Below.setCell ?_ (by first | omega | (simp; done) | (simp; omega)) _ | refine Below.alloc ?_ (by first | omega | (simp; done) | (simp; omega)) _ | refine bel_of ?_ (by assumption)))⟩
        · have e : chkX X = chk X.m.1 X.m.2 := by unfold chkX chk; rw [ha, hb, hc, hd]; rfl
          rw [e]
          have ga := gt_no ha
          have gb := gt_no hb
          have gc := gt_no hc
          have gd := gt_no hd
          generalize chk X.m.1 X.m.2 = cc at *
          clear ha hb hc hd e
          go_enter Try.func14, Try.ntmps14
          go_wp2_with (fail)
          refine (hM _).mono ?_
          rintro e w1 ⟨rfl, hb1⟩
          go_wp2
          go_ret
          exact ⟨rfl, by (repeat (first | assumption | exact Below.refl _ _ | refine Below.drew ?_ | refine bel_drewN ?_ _ | refine Below.setCell ?_ (by first | omega | (simp; done) | (simp; omega)) _ | refine Below.alloc ?_ (by first | omega | (simp; done) | (simp; omega)) _ | refine bel_of ?_ (by assumption)))⟩
end Go.Proofs.Ythggiblkehcfaaa
