/-
  A list of Steps among the arguments: opened into its pairs of numbers.
-/
import Derived.Test.YtpbbeemlaigimaaDoorLxFrame
import Derived.Test.YtpbbeemlaigimaaDoorLxDc
import Derived.Lib.SmallJoins
import Derived.Deep.SlicePairs
import Derived.Carry
namespace Go.Proofs.YtpbbeemlaigimaaDoor
open Go.ChangeShapes Go.WideShapes Go.ChangeAt Go.RowKit Go.Joins
set_option linter.unusedVariables false

theorem cells_st : Tryd.prog.cellsOf 45 = 2 := by kernel_rfl
theorem laidOut : laidOutB Tryd.prog = true := by kernel_rfl
theorem wf_i64 {a : Int} (h : (Lit.int .i64 a).wf = true) : -9223372036854775808 ≤ a ∧ a ≤ 9223372036854775807 := by
  have h1 : IntKind.i64.min ≤ a ∧ a ≤ IntKind.i64.max := by simpa [Lit.wf] using h
  have e1 : IntKind.i64.min = -9223372036854775808 := rfl
  have e2 : IntKind.i64.max = 9223372036854775807 := rfl
  omega
set_option maxRecDepth 20000 in
theorem open_sts {H : Type} {enc : TypeId × Value → H} {w : World} {base : Nat} {spare : Nat → Bool} {held : Bool} {r : Reach} {b0 : Nat} {v : Value} {d : DataW H} {p : List MemPlace}
    (hv : Value.okWide Tryd.prog w r b0 41 v) (h : DataW.Trod enc Tryd.prog w base spare held 41 v d p) : ∃ l : List (Int × Int), SrcS w v l ∧ ∀ p ∈ l, (-9223372036854775808 ≤ p.1 ∧ p.1 ≤ 9223372036854775807) ∧ (-9223372036854775808 ≤ p.2 ∧ p.2 ≤ 9223372036854775807) := by
  obtain ⟨a0, len, cap, rfl⟩ := okWide_slice Tryd.underlying41 hv
  obtain ⟨fuel, hf⟩ := h
  rcases Go.Deep.open_slice_pairs Tryd.underlying41 Tryd.underlying45 cells_st rfl rfl (by kernel_rfl) (by kernel_rfl) hf with ⟨hc, hx⟩ | ⟨a, len', cap', m, k, V0, V1, D0, D1, P0, P1, hc, _, hl, hm, hmm, hx, hall⟩
  · simp [Value.cells] at hc
    obtain ⟨rfl, rfl, rfl⟩ := hc
    exact ⟨[], ⟨none, 0, rfl, fun h0 => by simp at h0⟩, fun s hs => by cases hs⟩
  · simp [Value.cells] at hc
    obtain ⟨rfl, rfl, rfl⟩ := hc
    have hlm : len ≤ m := by rw [hmm]; split <;> omega
    have val : ∀ i, i < len → ∃ x y : Int, V0 i = .int .i64 x ∧ V1 i = .int .i64 y ∧ (Lit.int .i64 x).wf = true ∧ (Lit.int .i64 y).wf = true := by
      intro i hi
      obtain ⟨_, _, t0, t1⟩ := hall i (by omega)
      obtain ⟨x, e0, _, wx⟩ := DataW.trod_int Tryd.underlying3 t0
      obtain ⟨y, e1, _, wy⟩ := DataW.trod_int Tryd.underlying3 t1
      exact ⟨x, y, by simpa using e0, by simpa using e1, wx, wy⟩
    let l : List (Int × Int) := (List.range len).map fun i => (intOf (V0 i), intOf (V1 i))
    have hll : l.length = len := by simp [l]
    have hlg : ∀ i (hi : i < l.length), V0 i = .int .i64 (l[i]).1 ∧ V1 i = .int .i64 (l[i]).2 ∧ (Lit.int .i64 (l[i]).1).wf = true ∧ (Lit.int .i64 (l[i]).2).wf = true := by
      intro i hi
      obtain ⟨x, y, e0, e1, hx', hy'⟩ := val i (by omega)
      have : l[i] = (x, y) := by simp [l, e0, e1, intOf]
      rw [this]
      exact ⟨e0, e1, hx', hy'⟩
    refine ⟨l, ⟨_, cap, by rw [hll], fun h0 => ?_⟩, fun s hs => ?_⟩
    · obtain ⟨b, off, spot⟩ := a
      have h00 := (hall 0 (by omega)).1
      have hsp : spot = none := by
        cases spot with
        | none => rfl
        | some z =>
          simp only [Nat.zero_mul, Addr.add, if_true, World.cell?] at h00
          split at h00
          · simp at h00
          · cases h00
      subst hsp
      refine ⟨b, off, rfl, fun i hi => ?_⟩
      obtain ⟨v0, v1, _, _⟩ := hlg i hi
      obtain ⟨c0, c1, _, _⟩ := hall i (by omega)
      rw [Addr.add_lit] at c0 c1
      exact ⟨by rw [c0, v0], by rw [← v1, ← c1]; rfl⟩
    · obtain ⟨i, hi, rfl⟩ := List.mem_iff_getElem.1 hs
      exact ⟨wf_i64 (hlg i hi).2.2.1, wf_i64 (hlg i hi).2.2.2⟩
end Go.Proofs.YtpbbeemlaigimaaDoor
