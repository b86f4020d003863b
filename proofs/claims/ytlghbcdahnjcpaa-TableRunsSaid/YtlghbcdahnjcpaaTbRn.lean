/-
  A list of calls among the arguments; what holds while a script runs.
-/
import Derived.Test.YtlghbcdahnjcpaaTbSu
namespace Go.Proofs.Ytlghbcdahnjcpaa
open Go.ChangeShapes Go.WideShapes Go.RowKit
set_option linter.unusedVariables false
set_option linter.unusedSimpArgs false
set_option maxRecDepth 100000

def opZ : Opp := ⟨0, 0, 0, ruZ, ⟨0, 0, 0, 0, 0⟩, .slice none 0 0, []⟩
def SrcO (w : World) (v : Value) (l : List Opp) : Prop :=
  ∃ (ad : Option Addr) (cap : Nat), v = .slice ad l.length cap ∧ (l.length ≤ cap ∧ (ad = none → cap = 0)) ∧ (0 < l.length → ∃ g off, ad = some ⟨g, off, none⟩ ∧ ∀ k (hk : k < l.length) j, j < 21 → w.cell? ⟨g, off + (k * 21 + j), none⟩ = (encO (l[k]'hk))[j]?)
theorem SrcO.rng {w : World} {ad : Option Addr} {n cap : Nat} {l : List Opp} (h : SrcO w (.slice ad n cap) l) (W : World) (hb : Below w.heap.size w W) (k : Nat) (hk : k < l.length) : ∃ g off, ad = some ⟨g, off, none⟩ ∧ W.rangeAt g (off + k * 21) (encO (l[k]'hk)) := by
  obtain ⟨ad', cap', e, hc, h2⟩ := h
  obtain ⟨rfl, e2, rfl⟩ : ad = ad' ∧ n = l.length ∧ cap = cap' := by cases e; exact ⟨rfl, rfl, rfl⟩
  obtain ⟨g, off, e, h3⟩ := h2 (by omega)
  refine ⟨g, off, e, fun j u hu => ?_⟩
  have hj : j < 21 := by
    have := (List.getElem?_eq_some_iff.1 hu).1
    simpa [encO, encU] using this
  have := h3 k hk j hj
  rw [show off + k * 21 + j = off + (k * 21 + j) by omega]
  exact cell_on1 hb (this.trans hu)
section
variable {H : Type} {enc : TypeId × Value → H} {w : World} {base : Nat} {spare : Nat → Bool} {held : Bool}
theorem ops_of_cells {fuel : Nat} {v : Value} {y : DataW H × List MemPlace} (hfu : DataW.trod enc Try.prog w base spare held fuel 32 [v] = some y) : ∃ l : List Opp, SrcO w v l ∧ ∀ R ∈ l, BdO w R := by
  rcases Go.Deep.open_slice Try.underlying32 hfu with ⟨hc, hx⟩ | ⟨a, len, cap, m, k, D, Pl, hc, _, hl, hm, hmm, hx, hall⟩
  · simp at hc
    subst hc
    exact ⟨[], ⟨none, 0, rfl, ⟨Nat.le_refl _, fun _ => rfl⟩, fun h0 => absurd h0 (Nat.lt_irrefl _)⟩, fun s hs => by cases hs⟩
  · simp at hc
    subst hc
    have hlm : len ≤ m := by rw [hmm]; split <;> omega
    have val : ∀ i, ∃ X : Opp, i < len → (∀ j, j < 21 → w.cell? ((a.add (i * 21)).add j) = (encO X)[j]?) ∧ BdO w X := by
      intro i
      by_cases hi : i < len
      · obtain ⟨cs', h1, h2⟩ := hall i (by omega)
        rw [cells_Op] at h1
        obtain ⟨X, rfl, hb⟩ := op_of_cells h2
        exact ⟨X, fun _ => ⟨fun j hj => cells_at h1 j hj, hb⟩⟩
      · exact ⟨opZ, fun h => absurd h hi⟩
    obtain ⟨f, hf⟩ : ∃ f : Nat → Opp, f = fun i => Classical.choose (val i) := ⟨_, rfl⟩
    have hF : ∀ i, i < len → (∀ j, j < 21 → w.cell? ((a.add (i * 21)).add j) = (encO (f i))[j]?) ∧ BdO w (f i) := by rw [hf]; exact fun i => Classical.choose_spec (val i)
    refine ⟨(List.range len).map f, ⟨some a, cap, by simp, ⟨by simpa using hl, fun e => by cases e⟩, fun h0 => ?_⟩, fun R hR => ?_⟩
    · simp at h0
      have h00 := (hF 0 h0).1 0 (by decide)
      have hsp : a.spot = none := no_spot (h00.trans rfl)
      obtain ⟨b, off, spot⟩ := a
      simp only at hsp
      subst hsp
      refine ⟨b, off, rfl, fun i hi j hj => ?_⟩
      simp at hi
      have := (hF i hi).1 j hj
      rw [Addr.add_lit, Addr.add_lit, Nat.add_assoc] at this
      rw [this]
      simp
    · obtain ⟨i, hi, rfl⟩ := List.mem_map.1 hR
      exact (hF i (List.mem_range.1 hi)).2
theorem open_ops {r : Reach} {b0 : Nat} {v : Value} {d : DataW H} {p : List MemPlace}
    (hv : Value.okWide Try.prog w r b0 32 v) (h : DataW.Trod enc Try.prog w base spare held 32 v d p) : ∃ l : List Opp, (SrcO w v l ∧ ∀ R ∈ l, BdO w R) ∧ True := by
  obtain ⟨a0, len, cap, rfl⟩ := okWide_slice Try.underlying32 hv
  obtain ⟨fuel, hfu⟩ := h
  obtain ⟨l, h1⟩ := ops_of_cells (by simpa [Value.cells] using hfu)
  exact ⟨l, h1, trivial⟩
end
/-- The elder table: the same one, or one apart from it. -/
def Eld (W : World) (t : Nat) (v : Value) (c : Cf) (te : Nat) (uk : Value) : Prop :=
  te = t ∨ ∃ (ve : Value) (Le : List Ru), Tab W te ve c.m c.a Le ∧ Dj W te ve uk Le ∧ Le.length ≤ 100000 ∧ (∀ R ∈ Le, BdR R) ∧ te ≠ t ∧ v.ownBlock ≠ some te ∧ (∀ k, ve.ownBlock = some k → k ≠ t ∧ v.ownBlock ≠ some k) ∧ (∀ k, uk.ownBlock = some k → k ≠ t ∧ v.ownBlock ≠ some k)
def CfB (c : Cf) : Obj := .cells #[.int .i64 c.m, .int .i64 c.a, .int .i64 c.p, .int .i64 c.g, .int .i64 c.t, .int .i64 c.b, .int .i64 c.d] 24
def Run (w W : World) (t : Nat) (v : Value) (L : List Ru) (u : Value) (c : Cf) (k te : Nat) (uk : Value) : Prop :=
  Tab W t v c.m c.a L ∧ Dj W t v u L ∧ L.length ≤ 2000 + k ∧ (∀ R ∈ L, BdR R) ∧ Below w.heap.size w W ∧ w.heap.size ≤ t ∧ (∀ j, v.ownBlock = some j → w.heap.size ≤ j) ∧ Kb W t v w.heap.size (CfB c) ∧ Eld W t v c te uk
theorem Eld.moved {W W' : World} {t te : Nat} {v v' uk : Value} {c : Cf} (h : Eld W t v c te uk) (m : Moved W W' t v v') : Eld W' t v' c te uk := by
  rcases h with h | ⟨ve, Le, h1, h2, h3, h4, h5, h6, h7, h8⟩
  · exact .inl h
  · have ap : ∀ k, k < W.heap.size → v.ownBlock ≠ some k → v'.ownBlock ≠ some k := fun k hk hv e => by
      rcases m.own k e with h | h
      · exact hv h
      · omega
    refine .inr ⟨ve, Le, ⟨by rw [m.block te h1.lt h5 h6]; exact h1.1, rowU_stay h1.2.1 (fun k e => m.block k (h1.own e) (h7 k e).1 (h7 k e).2), h1.2.2⟩, ⟨h2.1.stay (fun k e hk => m.block k hk (h8 k e).1 (h8 k e).2), fun k e => ⟨Nat.lt_of_lt_of_le (h2.2 k e).1 m.size, (h2.2 k e).2⟩⟩, h3, h4, h5, ap te h1.lt h6, fun k e => ⟨(h7 k e).1, ap k (h1.own e) (h7 k e).2⟩, fun k e => ⟨(h8 k e).1, ap k (h2.2 k e).1 (h8 k e).2⟩⟩
theorem Run.moved {w W W' : World} {t k te : Nat} {v v' u m uk : Value} {L L' : List Ru} {c : Cf} (h : Run w W t v L u c k te uk) (hm : Moved W W' t v v') (hT : Tab W' t v' c.m c.a L') (hD : Dj W' t v' m L') (hl : L'.length ≤ L.length + 1 ∨ L'.length ≤ 2000) (hb : ∀ R ∈ L', BdR R) : Run w W' t v' L' m c (k + 1) te uk := by
  obtain ⟨h1, h2, h3, h4, h5, h6, h7, h8, h9⟩ := h
  exact ⟨hT, hD, by omega, hb, hm.below' h5 h5.size h6 h7, h6, hm.ge h5.size h7, h8.moved hm, h9.moved hm⟩
theorem Run.on {w W W' : World} {t k te : Nat} {v u uk : Value} {L : List Ru} {c : Cf} (h : Run w W t v L u c k te uk) (hb : Below W.heap.size W W') : Run w W' t v L u c k te uk := by
  obtain ⟨h1, h2, h3, h4, h5, h6, h7, h8, h9⟩ := h
  exact ⟨h1.on hb, h2.on hb, h3, h4, h5.trans (hb.mono h5.size), h6, h7, h8.on hb, h9.moved (Moved.of_below hb)⟩
theorem Run.clone {w W W' : World} {t t' k te : Nat} {v v' u uk : Value} {L : List Ru} {c : Cf} (h : Run w W t v L u c k te uk) (hk : k ≤ 2000) (hT : Tab W' t' v' c.m c.a L) (ht : W.heap.size ≤ t') (hv : ∀ j, v'.ownBlock = some j → W.heap.size ≤ j) (hb : Below W.heap.size W W') : Run w W' t' v' L u c (k + 1) t u := by
  obtain ⟨h1, h2, h3, h4, h5, h6, h7, h8, h9⟩ := h
  have ap : ∀ j, j < W.heap.size → j ≠ t' ∧ v'.ownBlock ≠ some j := fun j hj => ⟨by omega, fun e => by have := hv j e; omega⟩
  have hz := h5.size
  refine ⟨hT, ⟨h2.1.keep hb, fun j e => ⟨Nat.lt_of_lt_of_le (h2.2 j e).1 hb.size, ap j (h2.2 j e).1⟩⟩, by omega, h4, h5.trans (hb.mono hz), by omega, fun j e => Nat.le_trans hz (hv j e), ⟨blk_on h8.1 hb, ap _ h8.lt⟩, .inr ⟨v, L, h1.on hb, h2.on hb, by omega, h4, (ap t h1.lt).1, (ap t h1.lt).2, fun j e => ap j (h1.own e), fun j e => ap j (h2.2 j e).1⟩⟩
end Go.Proofs.Ytlghbcdahnjcpaa
