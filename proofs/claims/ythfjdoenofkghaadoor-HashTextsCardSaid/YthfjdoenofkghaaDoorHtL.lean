/-
  From the row's condition (what the listed variables hold) to what the contracts ask.
-/
import Derived.Test.YthfjdoenofkghaaDoorHhFo
import Derived.Test.YthfjdoenofkghaaDoorHtI
import Derived.LaidMore
import Derived.LaidLaws
import Derived.LaidHandle
import Derived.Lib.LaidTab
import Derived.Stop.Joined
namespace Go.Proofs.YthfjdoenofkghaaDoor
open Go.ChangeShapes Go.WideShapes Go.ChangeAt Go.RowKit
set_option linter.unusedVariables false

def laidList : List (String × DataW Unit) := [("math/bits.deBruijn32tab", Rows.laid_math_bits_deBruijn32tab), ("math/bits.deBruijn64tab", Rows.laid_math_bits_deBruijn64tab), ("internal/strconv.uint64pow10", Rows.laid_internal_strconv_uint64pow10)]
theorem gPow : Tryd.prog.globalNamed "internal/strconv.uint64pow10" = some 0 := by kernel_rfl
theorem tPow : (Tryd.prog.globals[0]?).map (·.type) = some 78 := by kernel_rfl
theorem cU64 : Tryd.prog.cellsOf 69 = 1 := by kernel_rfl
theorem cPow : Tryd.prog.cellsOf 78 = 20 := by kernel_rfl
def pows : List Int := [1, 10, 100, 1000, 10000, 100000, 1000000, 10000000, 100000000, 1000000000, 10000000000, 100000000000, 1000000000000, 10000000000000, 100000000000000, 1000000000000000, 10000000000000000, 100000000000000000, 1000000000000000000, 10000000000000000000]
theorem pows_at : ∀ x, x < 20 → pows.getD x 0 = ((10 ^ x : Nat) : Int) := by decide +kernel
theorem pows_is : pows = Lib.pow10Tab := by decide +kernel
theorem door_met (os : Os) (args : Array Value) : laidMetH Tryd.prog laidList ((World.doorLaid Tryd.prog 400 os).forCall (fun _ _ => 0) ⟨#[], args, []⟩).memory :=
  laidMetH_of_parts (laidMet_of_run' 8 (by kernel_rfl) (by kernel_rfl)) (by kernel_rfl)
theorem var_blk {P : Program} {w : World} {name : String} {g : Nat} {cs : Array Value} (hg : P.globalNamed name = some g) (hv : w.var? P name = some cs) : ∃ t fr, w.heap[g]? = some (.cells cs t fr) := by
  unfold World.var? at hv
  rw [hg] at hv
  simp only [Option.bind_some] at hv
  split at hv
  · rename_i cs' t' fr' hh
    obtain rfl := Option.some.inj hv
    exact ⟨t', fr', hh⟩
  · cases hv
theorem pw_of_laid {W : World} (h : laidMetH Tryd.prog laidList W) : Pw W := by
  have h1 : laidMet Tryd.prog [("math/bits.deBruijn32tab", Rows.laid_math_bits_deBruijn32tab), ("math/bits.deBruijn64tab", Rows.laid_math_bits_deBruijn64tab), ("internal/strconv.uint64pow10", Rows.laid_internal_strconv_uint64pow10)] W := h
  obtain ⟨ps, ⟨_, _, _, _, _, _, _, _, _, _, ⟨_, _, _, _, _, _, _, _, _, _, ⟨gp, tp, csp, fuelp, pp, qp, hgp, htp, hvp, hdp, _, _⟩, _⟩, _⟩, _⟩ := h1
  obtain rfl := Option.some.inj (gPow.symm.trans hgp)
  obtain rfl := Option.some.inj (tPow.symm.trans htp)
  have hd' : DataW.trod _ Tryd.prog W 0 _ false fuelp 78 csp.toList = some (Lib.tabData .u64 pows, pp) := hdp
  have hcs := Lib.cells_of_tab Tryd.underlying78 Tryd.underlying69 cU64 cPow hd'
  obtain ⟨t, fr, hb⟩ := var_blk gPow hvp
  refine ⟨t, fr, ?_⟩
  rw [hb, ← pows_is, ← hcs]
end Go.Proofs.YthfjdoenofkghaaDoor
