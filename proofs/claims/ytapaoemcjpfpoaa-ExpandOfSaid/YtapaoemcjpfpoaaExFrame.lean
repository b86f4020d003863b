/-
  Spans and stems among the arguments: opened into their numbers, and shut again; a list of stems likewise. Written by tools/mkExFrame.py.
-/
import Derived.Test.YtapaoemcjpfpoaaRows
import Derived.ProofKit
import Derived.OpenShut
import Derived.Lib.SmallJoins
import Derived.Deep.SlicePairs
import Derived.Carry
import Derived.Test.YtapaoemcjpfpoaaExE
namespace Go.Proofs.Ytapaoemcjpfpoaa
open Go.ChangeShapes Go.WideShapes Go.ChangeAt Go.RowKit Go.Joins
set_option linter.unusedVariables false

theorem own : ownKnob Try.prog.godebug = none := by kernel_rfl
theorem cells_sp : Try.prog.cellsOf 26 = 2 := by kernel_rfl
theorem laidOut : laidOutB Try.prog = true := by kernel_rfl

theorem wf_u16 {a : Int} (h : (Lit.int .u16 a).wf = true) : ∃ k : Nat, a = (k : Int) ∧ k < 65536 := by
  have h1 : IntKind.u16.min ≤ a ∧ a ≤ IntKind.u16.max := by simpa [Lit.wf] using h
  have e1 : IntKind.u16.min = 0 := rfl
  have e2 : IntKind.u16.max = 65535 := rfl
  exact ⟨a.toNat, by omega, by omega⟩
theorem open_sp {H : Type} {enc : TypeId × Value → H} {w : World} {base : Nat} {spare : Nat → Bool} {held : Bool} {r : Reach} {b0 : Nat} {v : Value} {d : DataW H} {p : List MemPlace}
    (hv : Value.okWide Try.prog w r b0 26 v) (h : DataW.Trod enc Try.prog w base spare held 26 v d p) :
    ∃ a n : Int, v = .agg #[.int .u16 a, .int .u16 n] ∧ d = .agg [.lit (.int .u16 a), .lit (.int .u16 n)] ∧ p = [] ∧ (Lit.int .u16 a).wf = true ∧ (Lit.int .u16 n).wf = true := by
  obtain ⟨c0, c1, y0, y1, m, rfl, rfl, rfl, hy0, hy1⟩ := open_agg2 Try.underlying26 (by kernel_rfl) cells_sp hv h
  obtain ⟨a, e0, rfl, wa⟩ := DataW.trod_int Try.underlying22 hy0
  obtain ⟨n, e1, rfl, wn⟩ := DataW.trod_int Try.underlying22 hy1
  simp at e0 e1
  subst e0 e1
  exact ⟨a, n, rfl, rfl, rfl, wa, wn⟩
theorem shut_sp {H : Type} {enc : TypeId × Value → H} {w : World} {base : Nat} {spare : Nat → Bool} {held : Bool} {a n : Int} (wa : (Lit.int .u16 a).wf = true) (wn : (Lit.int .u16 n).wf = true) :
    DataW.Trod enc Try.prog w base spare held 26 (.agg #[.int .u16 a, .int .u16 n]) (.agg [.lit (.int .u16 a), .lit (.int .u16 n)]) [] :=
  shut_agg2 (y0 := (.lit (.int .u16 a), [])) (y1 := (.lit (.int .u16 n), [])) Try.underlying26 (by kernel_rfl) cells_sp ⟨1, by simp [DataW.trod, Try.underlying22, wa]⟩ ⟨1, by simp [DataW.trod, Try.underlying22, wn]⟩
theorem cells_st : Try.prog.cellsOf 24 = 2 := by kernel_rfl
theorem open_st {H : Type} {enc : TypeId × Value → H} {w : World} {base : Nat} {spare : Nat → Bool} {held : Bool} {r : Reach} {b0 : Nat} {v : Value} {d : DataW H} {p : List MemPlace}
    (hv : Value.okWide Try.prog w r b0 24 v) (h : DataW.Trod enc Try.prog w base spare held 24 v d p) :
    ∃ a n : Int, v = .agg #[.int .u16 a, .int .i64 n] ∧ d = .agg [.lit (.int .u16 a), .lit (.int .i64 n)] ∧ p = [] ∧ (Lit.int .u16 a).wf = true ∧ (Lit.int .i64 n).wf = true := by
  obtain ⟨c0, c1, y0, y1, m, rfl, rfl, rfl, hy0, hy1⟩ := open_agg2 Try.underlying24 (by kernel_rfl) cells_st hv h
  obtain ⟨a, e0, rfl, wa⟩ := DataW.trod_int Try.underlying22 hy0
  obtain ⟨n, e1, rfl, wn⟩ := DataW.trod_int Try.underlying3 hy1
  simp at e0 e1
  subst e0 e1
  exact ⟨a, n, rfl, rfl, rfl, wa, wn⟩
theorem shut_st {H : Type} {enc : TypeId × Value → H} {w : World} {base : Nat} {spare : Nat → Bool} {held : Bool} {a n : Int} (wa : (Lit.int .u16 a).wf = true) (wn : (Lit.int .i64 n).wf = true) :
    DataW.Trod enc Try.prog w base spare held 24 (.agg #[.int .u16 a, .int .i64 n]) (.agg [.lit (.int .u16 a), .lit (.int .i64 n)]) [] :=
  shut_agg2 (y0 := (.lit (.int .u16 a), [])) (y1 := (.lit (.int .i64 n), [])) Try.underlying24 (by kernel_rfl) cells_st ⟨1, by simp [DataW.trod, Try.underlying22, wa]⟩ ⟨1, by simp [DataW.trod, Try.underlying3, wn]⟩
theorem flatI_get {l : List (Nat × Int)} {j : Nat} {u : Value} (h : (flatI l)[j]? = some u) : ∃ k, ∃ hk : k < l.length, (j = k * 2 ∧ u = .int .u16 ((l[k]'hk).1 : Int)) ∨ (j = k * 2 + 1 ∧ u = .int .i64 (l[k]'hk).2) := by
  have hj : j < (flatI l).length := (List.getElem?_eq_some_iff.1 h).1
  rw [flatI_length] at hj
  refine ⟨j / 2, by omega, ?_⟩
  have hf := flatI_at l (j / 2) (by omega)
  rcases Nat.mod_two_eq_zero_or_one j with e | e
  · left
    have e' : j / 2 * 2 = j := by omega
    rw [e', h] at hf
    exact ⟨e'.symm, Option.some.inj hf.1⟩
  · right
    have e' : j / 2 * 2 + 1 = j := by omega
    rw [e', h] at hf
    exact ⟨e'.symm, Option.some.inj hf.2⟩
theorem open_sts {H : Type} {enc : TypeId × Value → H} {w : World} {base : Nat} {spare : Nat → Bool} {held : Bool} {r : Reach} {b0 : Nat} {v : Value} {d : DataW H} {p : List MemPlace}
    (hv : Value.okWide Try.prog w r b0 33 v) (h : DataW.Trod enc Try.prog w base spare held 33 v d p) : ∃ l : List (Nat × Int), SrcT w v l ∧ BdT l := by
  obtain ⟨a0, len, cap, rfl⟩ := okWide_slice Try.underlying33 hv
  obtain ⟨fuel, hf⟩ := h
  rcases Go.Deep.open_slice_pairs Try.underlying33 Try.underlying24 cells_st rfl rfl (by kernel_rfl) (by kernel_rfl) hf with ⟨hc, hx⟩ | ⟨a, len', cap', m, k, V0, V1, D0, D1, P0, P1, hc, _, hl, hm, hmm, hx, hall⟩
  · simp [Value.cells] at hc
    obtain ⟨rfl, rfl, rfl⟩ := hc
    exact ⟨[], ⟨none, 0, rfl, fun h0 => by simp at h0⟩, fun s hs => by cases hs⟩
  · simp [Value.cells] at hc
    obtain ⟨rfl, rfl, rfl⟩ := hc
    have hlm : len ≤ m := by rw [hmm]; split <;> omega
    have val : ∀ i, i < len → ∃ (x : Nat) (y : Int), V0 i = .int .u16 (x : Int) ∧ V1 i = .int .i64 y ∧ x < 65536 := by
      intro i hi
      obtain ⟨_, _, t0, t1⟩ := hall i (by omega)
      obtain ⟨x, e0, _, wx⟩ := DataW.trod_int Try.underlying22 t0
      obtain ⟨y, e1, _, wy⟩ := DataW.trod_int Try.underlying3 t1
      obtain ⟨x', rfl, hx'⟩ := wf_u16 wx
      exact ⟨x', y, by simpa using e0, by simpa using e1, hx'⟩
    let l : List (Nat × Int) := (List.range len).map fun i => ((intOf (V0 i)).toNat, intOf (V1 i))
    have hll : l.length = len := by simp [l]
    have hlg : ∀ i (hi : i < l.length), V0 i = .int .u16 ((l[i]).1 : Int) ∧ V1 i = .int .i64 (l[i]).2 ∧ (l[i]).1 < 65536 := by
      intro i hi
      obtain ⟨x, y, e0, e1, hx'⟩ := val i (by omega)
      have : l[i] = (x, y) := by simp [l, e0, e1, intOf]
      rw [this]
      exact ⟨e0, e1, hx'⟩
    refine ⟨l, ⟨_, cap, by rw [hll], fun h0 => ?_⟩, fun s hs => ?_⟩
    · obtain ⟨b, off, spot⟩ := a
      have h00 := (hall 0 (by omega)).1
      have hsp : spot = none := by
        cases spot with
        | none => rfl
        | some z =>
          simp only [Nat.zero_mul, Addr.add, if_true, World.cell?] at h00
          split at h00
          · simp at h00
          · cases h00
      subst hsp
      refine ⟨b, off, rfl, fun j u hu => ?_⟩
      obtain ⟨i, hi, c⟩ := flatI_get hu
      obtain ⟨v0, v1, _⟩ := hlg i hi
      obtain ⟨c0, c1, _, _⟩ := hall i (by omega)
      rw [Addr.add_lit] at c0 c1
      rcases c with ⟨rfl, rfl⟩ | ⟨rfl, rfl⟩
      · rw [c0, v0]
      · rw [c1, v1]
    · obtain ⟨i, hi, rfl⟩ := List.mem_iff_getElem.1 hs
      exact (hlg i hi).2.2
end Go.Proofs.Ytapaoemcjpfpoaa
