/-
  A mask among the arguments: opened into its two bytes, and shut again; a list of bytes likewise.
-/
import Derived.Test.YtphfjhkbbodfaaaRows
import Derived.ProofKit
import Derived.OpenShut
import Derived.Lib.SmallJoins
import Derived.ChangeSlices
import Derived.Carry
import Derived.Test.YtphfjhkbbodfaaaMkH
namespace Go.Proofs.Ytphfjhkbbodfaaa
open Go.ChangeShapes Go.WideShapes Go.ChangeAt Go.RowKit Go.Joins
set_option linter.unusedVariables false

theorem own : ownKnob Try.prog.godebug = none := by kernel_rfl
theorem cells_mk : Try.prog.cellsOf 23 = 2 := by kernel_rfl
theorem cells_u8 : Try.prog.cellsOf 5 = 1 := by kernel_rfl
theorem laidOut : laidOutB Try.prog = true := by kernel_rfl

theorem wf_u8 {a : Int} (h : (Lit.int .u8 a).wf = true) : ∃ k : Nat, a = (k : Int) ∧ k < 256 := by
  have h1 : IntKind.u8.min ≤ a ∧ a ≤ IntKind.u8.max := by simpa [Lit.wf] using h
  have e1 : IntKind.u8.min = 0 := rfl
  have e2 : IntKind.u8.max = 255 := rfl
  exact ⟨a.toNat, by omega, by omega⟩
theorem wf_i64 {a : Int} (h : (Lit.int .i64 a).wf = true) : -9223372036854775808 ≤ a ∧ a ≤ 9223372036854775807 := by
  have h1 : IntKind.i64.min ≤ a ∧ a ≤ IntKind.i64.max := by simpa [Lit.wf] using h
  have e1 : IntKind.i64.min = -9223372036854775808 := rfl
  have e2 : IntKind.i64.max = 9223372036854775807 := rfl
  omega
theorem open_mk {H : Type} {enc : TypeId × Value → H} {w : World} {base : Nat} {spare : Nat → Bool} {held : Bool} {r : Reach} {b0 : Nat} {v : Value} {d : DataW H} {p : List MemPlace}
    (hv : Value.okWide Try.prog w r b0 23 v) (h : DataW.Trod enc Try.prog w base spare held 23 v d p) :
    ∃ a n : Int, v = .agg #[.int .u8 a, .int .u8 n] ∧ d = .agg [.lit (.int .u8 a), .lit (.int .u8 n)] ∧ p = [] ∧ (Lit.int .u8 a).wf = true ∧ (Lit.int .u8 n).wf = true := by
  obtain ⟨c0, c1, y0, y1, m, rfl, rfl, rfl, hy0, hy1⟩ := open_agg2 Try.underlying23 (by kernel_rfl) cells_mk hv h
  obtain ⟨a, e0, rfl, wa⟩ := DataW.trod_int Try.underlying5 hy0
  obtain ⟨n, e1, rfl, wn⟩ := DataW.trod_int Try.underlying5 hy1
  simp at e0 e1
  subst e0 e1
  exact ⟨a, n, rfl, rfl, rfl, wa, wn⟩
theorem shut_mk {H : Type} {enc : TypeId × Value → H} {w : World} {base : Nat} {spare : Nat → Bool} {held : Bool} {a n : Int} (wa : (Lit.int .u8 a).wf = true) (wn : (Lit.int .u8 n).wf = true) :
    DataW.Trod enc Try.prog w base spare held 23 (.agg #[.int .u8 a, .int .u8 n]) (.agg [.lit (.int .u8 a), .lit (.int .u8 n)]) [] :=
  shut_agg2 (y0 := (.lit (.int .u8 a), [])) (y1 := (.lit (.int .u8 n), [])) Try.underlying23 (by kernel_rfl) cells_mk ⟨1, by simp [DataW.trod, Try.underlying5, wa]⟩ ⟨1, by simp [DataW.trod, Try.underlying5, wn]⟩
theorem open_bys {H : Type} {enc : TypeId × Value → H} {w : World} {base : Nat} {spare : Nat → Bool} {held : Bool} {r : Reach} {b0 : Nat} {v : Value} {d : DataW H} {p : List MemPlace}
    (hv : Value.okWide Try.prog w r b0 29 v) (h : DataW.Trod enc Try.prog w base spare held 29 v d p) : ∃ l : List Nat, SrcB w v l ∧ BdB l ∧ l.length ≤ maxLen := by
  obtain ⟨a0, len, cap, rfl⟩ := okWide_slice Try.underlying29 hv
  obtain ⟨fuel, hf⟩ := h
  rcases open_ints Try.underlying29 Try.underlying5 cells_u8 hf with ⟨hc, hx⟩ | ⟨a, len', cap', zs, hc, _, hl, hm, hz, hx, hcell, hwz⟩
  · simp [Value.cells] at hc
    obtain ⟨rfl, rfl, rfl⟩ := hc
    exact ⟨[], ⟨none, 0, rfl, fun h0 => by simp at h0⟩, fun s hs => (by cases hs), Nat.zero_le _⟩
  · simp [Value.cells] at hc
    obtain ⟨rfl, rfl, rfl⟩ := hc
    have hlz : len ≤ zs.length := by rw [hz]; split <;> omega
    have hlen : ((zs.take len).map Int.toNat).length = len := by simp; omega
    refine ⟨(zs.take len).map Int.toNat, ⟨some a, cap, by rw [hlen], fun h0 => ?_⟩, fun p hp => ?_, by rw [hlen]; omega⟩
    · rw [hlen] at h0
      obtain ⟨ab, ao, spot⟩ := a
      have hspot : spot = none := by simpa [Addr.add] using World.cell?_spot (hcell 0 (by omega))
      subst hspot
      refine ⟨ab, ao, rfl, fun k hk => ?_⟩
      rw [hlen] at hk
      have hck := hcell k (by omega)
      rw [Addr.add_lit] at hck
      have hgk : zs.getD k 0 = zs[k]'(by omega) := by simp [show k < zs.length by omega]
      obtain ⟨q, hq, _⟩ := wf_u8 (hwz _ (List.getElem_mem (show k < zs.length by omega)))
      rw [hck, hgk]
      simp only [List.getElem_map, List.getElem_take]
      rw [hq]; simp
    · rw [List.mem_map] at hp
      obtain ⟨n, hn, rfl⟩ := hp
      obtain ⟨q, rfl, hq⟩ := wf_u8 (hwz n (List.mem_of_mem_take hn))
      simpa using hq
end Go.Proofs.Ytphfjhkbbodfaaa
