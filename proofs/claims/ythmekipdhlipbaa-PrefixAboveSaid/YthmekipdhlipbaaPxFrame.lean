/-
  A prefix among the arguments: opened into its two numbers, and shut again.
-/
import Derived.Test.YthmekipdhlipbaaRows
import Derived.ProofKit
import Derived.OpenShut
import Derived.Lib.SmallJoins
import Derived.Below
namespace Go.Proofs.Ythmekipdhlipbaa
open Go.ChangeShapes Go.WideShapes Go.ChangeAt Go.RowKit Go.Joins
set_option linter.unusedVariables false

theorem own : ownKnob Try.prog.godebug = none := by kernel_rfl
theorem cells_px : Try.prog.cellsOf 24 = 2 := by kernel_rfl

theorem open_px {H : Type} {enc : TypeId × Value → H} {w : World} {base : Nat} {spare : Nat → Bool} {held : Bool} {r : Reach} {b0 : Nat} {v : Value} {d : DataW H} {p : List MemPlace}
    (hv : Value.okWide Try.prog w r b0 24 v) (h : DataW.Trod enc Try.prog w base spare held 24 v d p) :
    ∃ a n : Int, v = .agg #[.int .u32 a, .int .i64 n] ∧ d = .agg [.lit (.int .u32 a), .lit (.int .i64 n)] ∧ p = [] ∧ (Lit.int .u32 a).wf = true ∧ (Lit.int .i64 n).wf = true := by
  obtain ⟨c0, c1, y0, y1, m, rfl, rfl, rfl, hy0, hy1⟩ := open_agg2 Try.underlying24 (by kernel_rfl) cells_px hv h
  obtain ⟨a, e0, rfl, wa⟩ := DataW.trod_int Try.underlying22 hy0
  obtain ⟨n, e1, rfl, wn⟩ := DataW.trod_int Try.underlying3 hy1
  simp at e0 e1
  subst e0 e1
  exact ⟨a, n, rfl, rfl, rfl, wa, wn⟩
theorem shut_px {H : Type} {enc : TypeId × Value → H} {w : World} {base : Nat} {spare : Nat → Bool} {held : Bool} {a n : Int} (wa : (Lit.int .u32 a).wf = true) (wn : (Lit.int .i64 n).wf = true) :
    DataW.Trod enc Try.prog w base spare held 24 (.agg #[.int .u32 a, .int .i64 n]) (.agg [.lit (.int .u32 a), .lit (.int .i64 n)]) [] :=
  shut_agg2 (y0 := (.lit (.int .u32 a), [])) (y1 := (.lit (.int .i64 n), [])) Try.underlying24 (by kernel_rfl) cells_px ⟨1, by simp [DataW.trod, Try.underlying22, wa]⟩ ⟨1, by simp [DataW.trod, Try.underlying3, wn]⟩
theorem wf_u32 {a : Int} (h : (Lit.int .u32 a).wf = true) : ∃ k : Nat, a = (k : Int) ∧ k < 4294967296 := by
  have h1 : IntKind.u32.min ≤ a ∧ a ≤ IntKind.u32.max := by simpa [Lit.wf] using h
  have e1 : IntKind.u32.min = 0 := rfl
  have e2 : IntKind.u32.max = 4294967295 := rfl
  exact ⟨a.toNat, by omega, by omega⟩
end Go.Proofs.Ythmekipdhlipbaa
