/-
  A span among the arguments: opened into its two numbers, and shut again; a list of spans likewise.
-/
import Derived.Test.YthmekipdhlipbaaRows
import Derived.ProofKit
import Derived.OpenShut
import Derived.Lib.SmallJoins
import Derived.Deep.SlicePairs
import Derived.Carry
import Derived.Test.YthmekipdhlipbaaSpUn
namespace Go.Proofs.Ythmekipdhlipbaa
open Go.ChangeShapes Go.WideShapes Go.ChangeAt Go.RowKit Go.Joins
set_option linter.unusedVariables false

theorem own : ownKnob Try.prog.godebug = none := by kernel_rfl
theorem cells_sp : Try.prog.cellsOf 41 = 2 := by kernel_rfl
theorem laidOut : laidOutB Try.prog = true := by kernel_rfl

theorem wf_u16 {a : Int} (h : (Lit.int .u16 a).wf = true) : ∃ k : Nat, a = (k : Int) ∧ k < 65536 := by
  have h1 : IntKind.u16.min ≤ a ∧ a ≤ IntKind.u16.max := by simpa [Lit.wf] using h
  have e1 : IntKind.u16.min = 0 := rfl
  have e2 : IntKind.u16.max = 65535 := rfl
  exact ⟨a.toNat, by omega, by omega⟩
theorem open_sp {H : Type} {enc : TypeId × Value → H} {w : World} {base : Nat} {spare : Nat → Bool} {held : Bool} {r : Reach} {b0 : Nat} {v : Value} {d : DataW H} {p : List MemPlace}
    (hv : Value.okWide Try.prog w r b0 41 v) (h : DataW.Trod enc Try.prog w base spare held 41 v d p) :
    ∃ a n : Int, v = .agg #[.int .u16 a, .int .u16 n] ∧ d = .agg [.lit (.int .u16 a), .lit (.int .u16 n)] ∧ p = [] ∧ (Lit.int .u16 a).wf = true ∧ (Lit.int .u16 n).wf = true := by
  obtain ⟨c0, c1, y0, y1, m, rfl, rfl, rfl, hy0, hy1⟩ := open_agg2 Try.underlying41 (by kernel_rfl) cells_sp hv h
  obtain ⟨a, e0, rfl, wa⟩ := DataW.trod_int Try.underlying39 hy0
  obtain ⟨n, e1, rfl, wn⟩ := DataW.trod_int Try.underlying39 hy1
  simp at e0 e1
  subst e0 e1
  exact ⟨a, n, rfl, rfl, rfl, wa, wn⟩
theorem shut_sp {H : Type} {enc : TypeId × Value → H} {w : World} {base : Nat} {spare : Nat → Bool} {held : Bool} {a n : Int} (wa : (Lit.int .u16 a).wf = true) (wn : (Lit.int .u16 n).wf = true) :
    DataW.Trod enc Try.prog w base spare held 41 (.agg #[.int .u16 a, .int .u16 n]) (.agg [.lit (.int .u16 a), .lit (.int .u16 n)]) [] :=
  shut_agg2 (y0 := (.lit (.int .u16 a), [])) (y1 := (.lit (.int .u16 n), [])) Try.underlying41 (by kernel_rfl) cells_sp ⟨1, by simp [DataW.trod, Try.underlying39, wa]⟩ ⟨1, by simp [DataW.trod, Try.underlying39, wn]⟩
end Go.Proofs.Ythmekipdhlipbaa
