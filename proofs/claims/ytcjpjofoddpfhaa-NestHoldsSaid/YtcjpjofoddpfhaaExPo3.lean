/-
  cover, Of and Count of package expand.
-/
import Derived.Test.YtcjpjofoddpfhaaExPk2
import Derived.Test.YtcjpjofoddpfhaaSpSr
namespace Go.Proofs.Ytcjpjofoddpfhaa.Xp
open Go.RowKit
set_option linter.unusedVariables false
set_option linter.unusedSimpArgs false

theorem cntN : CntN := by
  intro lo hi w hlo h
  have hk : chkS lo hi = 30 := if_pos h
  have hc := fun W => checkS lo hi W
  rw [hk] at hc
  clear hk
  go_enter Try.func28, Try.ntmps28
  go_wp2_with (go_at_call 17; refine (hc _).mono ?_; rintro e w1 ⟨rfl, hb1⟩)
  go_ret2
  exact ⟨rfl, by (repeat (first | assumption | exact Below.refl _ _ | refine Below.drew ?_ | refine bel_drewN ?_ _ | refine Below.setCell ?_ (by first | omega | (simp; done) | (simp; omega)) _ | refine Below.alloc ?_ (by first | omega | (simp; done) | (simp; omega)) _ | refine bel_of ?_ (by assumption)))⟩
set_option maxHeartbeats 1000000 in
theorem cntC : CntC := by
  intro lo hi w h hh
  have hk : chkS lo hi = 0 := if_neg (by omega)
  have hc := fun W => checkS lo hi W
  rw [hk] at hc
  clear hk
  rw [tl_span h hh]
  go_enter Try.func28, Try.ntmps28
  go_wp2_with (fail)
  refine (hc _).mono ?_
  rintro e w1 ⟨rfl, hb1⟩
  have z0 : w1.cell? ⟨w.heap.size, 0, none⟩ = some (.int .u16 lo) := cell_on hb1 (by simp [go_sem])
  have z1 : w1.cell? ⟨w.heap.size, 1, none⟩ = some (.int .u16 hi) := cell_on hb1 (by simp [go_sem])
  have hz1 := hb1.size
  simp at hz1
  have z2 : (w1.alloc (.cells #[.int .i64 0] 3)).cell? ⟨w.heap.size, 0, none⟩ = some (.int .u16 lo) := cell_alloc z0
  have z3 : (w1.alloc (.cells #[.int .i64 0] 3)).cell? ⟨w.heap.size, 1, none⟩ = some (.int .u16 hi) := cell_alloc z1
  have HB : Hid (Below w.heap.size w w1) := by show Below _ _ _; (repeat (first | assumption | exact Below.refl _ _ | refine Below.drew ?_ | refine bel_drewN ?_ _ | refine Below.setCell ?_ (by first | omega | (simp; done) | (simp; omega)) _ | refine Below.alloc ?_ (by first | omega | (simp; done) | (simp; omega)) _ | refine bel_of ?_ (by assumption)))
  clear hb1
  go_wp2_with (fail)
  refine (climbN lo hi w1.heap.size 0 _ h hh (heap_alloc_new _ _) (by omega)).mono ?_
  rintro e w2 ⟨rfl, ht2, hb2⟩
  rw [Nat.zero_add] at ht2
  have c2 := cell_of_one ht2
  have HB2 : Hid (Below w.heap.size w w2) := (HB.out.alloc (by omega) _).trans (hb2.mono (by omega))
  clear ht2 hb2
  go_wp2
  go_ret2
  exact ⟨rfl, HB2.out⟩
end Go.Proofs.Ytcjpjofoddpfhaa.Xp
