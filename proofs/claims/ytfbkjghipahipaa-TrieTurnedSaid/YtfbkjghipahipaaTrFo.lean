/-
  Scripts of calls among the arguments, opened.
-/
import Derived.Test.YtfbkjghipahipaaTrFr
import Derived.Test.YtfbkjghipahipaaTrPd
namespace Go.Proofs.Ytfbkjghipahipaa
open Go.ChangeShapes Go.WideShapes Go.ChangeAt Go.RowKit Go.Joins
set_option linter.unusedVariables false
set_option linter.unusedSimpArgs false
set_option maxRecDepth 20000

def opZ : Opx := ⟨0, false, 0, 0, 0⟩
def BdO (o : Opx) : Prop := I64 o.k ∧ o.a < 4294967296 ∧ I64 o.n ∧ I64 o.v
theorem cells_int : Try.prog.cellsOf 3 = 1 := by kernel_rfl
theorem cells_bool : Try.prog.cellsOf 4 = 1 := by kernel_rfl
theorem cells_u32 : Try.prog.cellsOf 33 = 1 := by kernel_rfl
theorem cells_Op : Try.prog.cellsOf 35 = 5 := by kernel_rfl
theorem list5 {A : Type} {l : List A} (h : l.length = 5) : ∃ a b c d e, l = [a, b, c, d, e] := by
  match l, h with
  | [a, b, c, d, e], _ => exact ⟨a, b, c, d, e, rfl⟩
section
variable {H : Type} {enc : TypeId × Value → H} {w : World} {base : Nat} {spare : Nat → Bool} {held : Bool}
theorem op_of_cells {fuel : Nat} {cs : List Value} {y : DataW H × List MemPlace} (hf : DataW.trod enc Try.prog w base spare held fuel 35 cs = some y) : ∃ o : Opx, cs = encO o ∧ BdO o := by
  obtain ⟨xs, n, _, hx, hl, hlen, hfl⟩ := DataW.trod_struct Try.underlying35 hf
  obtain ⟨c0, c1, c2, c3, c4, rfl⟩ := list5 (hl.trans cells_Op)
  obtain ⟨y0, y1, y2, y3, y4, rfl⟩ := list5 (l := xs) (by simpa using hlen)
  have g0 := hfl 0 _ rfl
  have g1 := hfl 1 _ rfl
  have g2 := hfl 2 _ rfl
  have g3 := hfl 3 _ rfl
  have g4 := hfl 4 _ rfl
  simp [cells_int, cells_bool, cells_u32] at g0 g1 g2 g3 g4
  obtain ⟨p0, r0, t0, u0⟩ := DataW.trod_int Try.underlying3 g0
  obtain ⟨p1, r1, t1⟩ := DataW.trod_bool Try.underlying4 g1
  obtain ⟨p2, r2, t2, u2⟩ := DataW.trod_int Try.underlying33 g2
  obtain ⟨p3, r3, t3, u3⟩ := DataW.trod_int Try.underlying3 g3
  obtain ⟨p4, r4, t4, u4⟩ := DataW.trod_int Try.underlying3 g4
  simp at r0 r1 r2 r3 r4
  subst r0 r1 r2 r3 r4
  obtain ⟨k2, rfl, b2⟩ := wf_u32 u2
  exact ⟨⟨p0, p1, k2, p3, p4⟩, rfl, wf_sgn u0, b2, wf_sgn u3, wf_sgn u4⟩
theorem cells_at {b : Nat} {a : Addr} {n : Nat} {cs : List Value} (h : w.cells? b a n = some cs) (j : Nat) (hj : j < n) : w.cell? (a.add j) = cs[j]? := by
  unfold World.cells? at h
  split at h
  · obtain ⟨x, h1, h2⟩ := Lib.mapM_at h j j (by simp [hj])
    rw [h1]; exact h2
  · cases h
theorem no_spot {a : Addr} {v : Value} (h : w.cell? ((a.add 0).add 0) = some v) : a.spot = none := by
  obtain ⟨b, off, spot⟩ := a
  cases spot with
  | none => rfl
  | some z =>
    exfalso
    simp only [Addr.add, if_true, World.cell?] at h
    split at h
    · simp at h
    · cases h
theorem ops_of_cells {fuel : Nat} {v : Value} {y : DataW H × List MemPlace} (hfu : DataW.trod enc Try.prog w base spare held fuel 22 [v] = some y) : ∃ l : List Opx, SrcO w v l ∧ ∀ R ∈ l, BdO R := by
  rcases Go.Deep.open_slice Try.underlying22 hfu with ⟨hc, hx⟩ | ⟨a, len, cap, m, k, D, Pl, hc, _, hl, hm, hmm, hx, hall⟩
  · simp at hc
    subst hc
    exact ⟨[], ⟨none, 0, rfl, ⟨Nat.le_refl _, fun _ => rfl⟩, fun h0 => absurd h0 (Nat.lt_irrefl _)⟩, fun s hs => by cases hs⟩
  · simp at hc
    subst hc
    have hlm : len ≤ m := by rw [hmm]; split <;> omega
    have val : ∀ i, ∃ X : Opx, i < len → (∀ j, j < 5 → w.cell? ((a.add (i * 5)).add j) = (encO X)[j]?) ∧ BdO X := by
      intro i
      by_cases hi : i < len
      · obtain ⟨cs', h1, h2⟩ := hall i (by omega)
        rw [cells_Op] at h1
        obtain ⟨X, rfl, hb⟩ := op_of_cells h2
        exact ⟨X, fun _ => ⟨fun j hj => cells_at h1 j hj, hb⟩⟩
      · exact ⟨opZ, fun h => absurd h hi⟩
    obtain ⟨f, hf⟩ : ∃ f : Nat → Opx, f = fun i => Classical.choose (val i) := ⟨_, rfl⟩
    have hF : ∀ i, i < len → (∀ j, j < 5 → w.cell? ((a.add (i * 5)).add j) = (encO (f i))[j]?) ∧ BdO (f i) := by rw [hf]; exact fun i => Classical.choose_spec (val i)
    refine ⟨(List.range len).map f, ⟨some a, cap, by simp, ⟨by simpa using hl, fun e => by cases e⟩, fun h0 => ?_⟩, fun R hR => ?_⟩
    · simp at h0
      have h00 := (hF 0 h0).1 0 (by decide)
      have hsp : a.spot = none := no_spot (h00.trans rfl)
      obtain ⟨b, off, spot⟩ := a
      simp only at hsp
      subst hsp
      refine ⟨b, off, rfl, fun i hi j hj => ?_⟩
      simp at hi
      have := (hF i hi).1 j hj
      rw [Addr.add_lit, Addr.add_lit, Nat.add_assoc] at this
      rw [this]
      simp
    · obtain ⟨i, hi, rfl⟩ := List.mem_map.1 hR
      exact (hF i (List.mem_range.1 hi)).2
theorem open_ops {r : Reach} {b0 : Nat} {v : Value} {d : DataW H} {p : List MemPlace}
    (hv : Value.okWide Try.prog w r b0 22 v) (h : DataW.Trod enc Try.prog w base spare held 22 v d p) : ∃ l : List Opx, SrcO w v l ∧ ∀ R ∈ l, BdO R := by
  obtain ⟨a0, len, cap, rfl⟩ := okWide_slice Try.underlying22 hv
  obtain ⟨fuel, hfu⟩ := h
  exact ops_of_cells (by simpa [Value.cells] using hfu)
end
end Go.Proofs.Ytfbkjghipahipaa
