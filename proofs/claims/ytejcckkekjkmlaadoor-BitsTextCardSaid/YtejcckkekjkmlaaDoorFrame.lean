/-
  From the rows' condition (the table of the ones of four bits reads as its initialiser lays it) to what the contracts ask of the world; and a world that meets it.
-/
import Derived.Test.YtejcckkekjkmlaaDoorRows
import Derived.Test.YtejcckkekjkmlaaDoorWalkD
import Derived.ProofKit
import Derived.LaidMore
import Derived.OpenShut
import Derived.Stop.Joined
import Derived.Lib.LaidTab
namespace Go.Proofs.YtejcckkekjkmlaaDoor
open Go.ChangeShapes Go.WideShapes Go.ChangeAt Go.RowKit

theorem own : ownKnob Tryd.prog.godebug = none := by kernel_rfl
def laidList : List (String × DataW Unit) := [("quintet/bits.onesOfFour", Rows.laid_quintet_bits_onesOfFour)]
theorem gTab : Tryd.prog.globalNamed "quintet/bits.onesOfFour" = some 0 := by kernel_rfl
theorem tTab : (Tryd.prog.globals[0]?).map (·.type) = some 41 := by kernel_rfl
theorem cInt : Tryd.prog.cellsOf 3 = 1 := by kernel_rfl
theorem cTab : Tryd.prog.cellsOf 41 = 16 := by kernel_rfl

/-- The heap that the door's own run leaves meets the condition. -/
theorem door_met (os : Os) (args : Array Value) : laidMetH Tryd.prog laidList ((World.doorLaid Tryd.prog 400 os).forCall (fun _ _ => 0) ⟨#[], args, []⟩).memory :=
  laidMetH_of_parts3 (fuel := 8) (laidMet_of_run' 8 (by kernel_rfl) (by kernel_rfl)) (by kernel_rfl) (by kernel_rfl)

theorem tab_of_laid {W : World} (h : laidMetH Tryd.prog laidList W) : Tab W := by
  rw [MakeChecks.laidMetH_plain _ _ _ (by kernel_rfl)] at h
  have ht : Lib.TabIs Tryd.prog W "quintet/bits.onesOfFour" .i64 tab := Lib.tabIs_of_head gTab tTab Tryd.underlying41 Tryd.underlying3 cInt cTab h
  have hc : ∀ x, x < 16 → W.cell? ⟨0, x, none⟩ = some (.int .i64 (tab[x]?.getD 0)) := fun x hx => ht.cell gTab x hx
  refine ⟨hc, ?_⟩
  have h0 := hc 0 (by decide)
  rcases Nat.lt_or_ge 0 W.heap.size with hlt | hge
  · exact hlt
  · simp [World.cell?, Array.getElem?_eq_none hge] at h0
end Go.Proofs.YtejcckkekjkmlaaDoor
