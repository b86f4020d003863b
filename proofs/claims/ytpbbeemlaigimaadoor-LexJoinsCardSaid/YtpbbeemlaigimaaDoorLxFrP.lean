/-
  From the rows' condition to the table of the powers of ten.
-/
import Derived.Test.YtpbbeemlaigimaaDoorLxFrame
import Derived.Test.YtpbbeemlaigimaaDoorLxEr
namespace Go.Proofs.YtpbbeemlaigimaaDoor
open Go.ChangeShapes Go.WideShapes Go.ChangeAt Go.RowKit
set_option linter.unusedVariables false

theorem pows_is : pows = Lib.pow10Tab := by decide +kernel
theorem pow_of_laid {W : World} (h : laidMetH Tryd.prog laidList W) : Pw W := by
  have h' : laidMet Tryd.prog [("math/bits.deBruijn32tab", Rows.laid_math_bits_deBruijn32tab), ("math/bits.deBruijn64tab", Rows.laid_math_bits_deBruijn64tab), ("internal/strconv.uint64pow10", Rows.laid_internal_strconv_uint64pow10), ("strconv.ErrRange", Rows.laid_strconv_ErrRange), ("strconv.ErrSyntax", Rows.laid_strconv_ErrSyntax)] W ∧ handlesMet Tryd.prog [("errors.errorType", Rows.laid_errors_errorType)] W := h
  obtain ⟨h1, h2⟩ := h'
  obtain ⟨ps, ⟨_, _, _, _, _, _, _, _, _, _, ⟨_, _, _, _, _, _, _, _, _, _, ⟨g, t, cs, fuel, p, q, hg, ht, hv, hd, _, _⟩, _⟩, _⟩, _⟩ := h1
  obtain rfl := Option.some.inj (gPow.symm.trans hg)
  obtain rfl := Option.some.inj (tPow.symm.trans ht)
  have hd' : DataW.trod _ Tryd.prog W 0 _ false fuel 133 cs.toList = some (Lib.tabData .u64 pows, p) := hd
  have hcs := Lib.cells_of_tab Tryd.underlying133 Tryd.underlying85 cU64 cPow hd'
  rw [pows_is] at hcs
  unfold World.var? at hv
  rw [gPow] at hv
  simp only [Option.bind_some] at hv
  split at hv
  · rename_i cs' t' fr' hh
    obtain rfl := Option.some.inj hv
    refine ⟨t', fr', ?_⟩
    rw [hh]
    congr 2
    first | exact hcs.symm ▸ rfl | (rw [← hcs]) | (apply Array.toList_inj.1; rw [← hcs]) | simpa using hcs
  · cases hv
end Go.Proofs.YtpbbeemlaigimaaDoor
