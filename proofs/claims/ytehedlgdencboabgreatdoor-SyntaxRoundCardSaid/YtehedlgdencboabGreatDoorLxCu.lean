/-
  The landed lex.All: what it answers.
-/
import Derived.Test.YtehedlgdencboabGreatDoorLxCt
import Derived.Test.YtehedlgdencboabGreatDoorLxK
namespace Go.Proofs.YtehedlgdencboabGreatDoor
open Go.RowKit
set_option linter.unusedVariables false
set_option linter.unusedSimpArgs false

set_option maxRecDepth 20000 in
set_option maxHeartbeats 4000000 in
theorem allOk : AllOk := by
  intro s w hs hg he
  have hA := scanC s w hs hg
  rw [he] at hA
  generalize lexT s = L at *
  clear hs hg he
  go_enter Tryz.func57, Tryz.ntmps57
  go_wp2_with (go_at_call 71; refine hA.mono ?_; rintro e w1 ⟨v1, rfl, hrow1, hb1⟩; have HR1 : Hid (RowT w1 w.heap.size v1 L.1) := hrow1; have HB1 : Hid (Below w.heap.size w w1) := hb1; clear hrow1 hb1)
  go_ret2
  exact ⟨v1, rfl, HR1.out.alloc _, HB1.out.alloc HB1.out.size _⟩
set_option maxRecDepth 20000 in
set_option maxHeartbeats 4000000 in
theorem allBad : AllBad := by
  intro s w hs hg he
  have hA := scanC s w hs hg
  generalize lexT s = L at *
  have he' : ¬ (L.2.e : Int) = 0 := by omega
  clear hs hg he
  go_enter Tryz.func57, Tryz.ntmps57
  go_wp2_with (go_at_call 71; refine hA.mono ?_; rintro e w1 ⟨v1, rfl, hrow1, hb1⟩; have HR1 : Hid (RowT w1 w.heap.size v1 L.1) := hrow1; have HB1 : Hid (Below w.heap.size w w1) := hb1; clear hrow1 hb1)
  go_ret2
  exact ⟨_, w1.heap.size, rfl, RowT.nil _ _, blk_new w1 _, HB1.out.size, by simp [Value.ownBlock], HB1.out.alloc HB1.out.size _⟩
end Go.Proofs.YtehedlgdencboabGreatDoor
