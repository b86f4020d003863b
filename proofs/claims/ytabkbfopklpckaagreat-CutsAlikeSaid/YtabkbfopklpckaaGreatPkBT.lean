/-
  PkBT: CtFo, one behind the other (tools/pack.py).
-/
import Derived.Test.YtabkbfopklpckaaGreatPkBS
import Derived.Test.YtabkbfopklpckaaGreatPkAE
set_option linter.unusedVariables false
set_option linter.unusedSimpArgs false
namespace Go.Proofs.YtabkbfopklpckaaGreat
open Go.ChangeShapes Go.WideShapes Go.ChangeAt Go.RowKit Go.Joins
set_option maxRecDepth 100000
variable {H : Type} {enc : TypeId × Value → H} {w : World} {base : Nat} {spare : Nat → Bool} {held : Bool}
def SrcO (w : World) (v : Value) (l : List Opp) : Prop :=
 ∃ (ad : Option Addr) (cap : Nat), v = .slice ad l.length cap ∧ (l.length ≤ cap ∧ (ad = none → cap = 0)) ∧ (0 < l.length → ∃ g off, ad = some ⟨g, off, none⟩ ∧ ∀ k (hk : k < l.length) j, j < 21 → w.cell? ⟨g, off + (k * 21 + j), none⟩ = (encO (l[k]'hk))[j]?)
theorem SrcO.rng {w : World} {ad : Option Addr} {n cap : Nat} {l : List Opp} (h : SrcO w (.slice ad n cap) l) (W : World) (hb : Below w.heap.size w W) (k : Nat) (hk : k < l.length) : ∃ g off, ad = some ⟨g, off, none⟩ ∧ W.rangeAt g (off + k * 21) (encO (l[k]'hk)) := by
 obtain ⟨ad', cap', e, hc, h2⟩ := h
 obtain ⟨rfl, e2, rfl⟩ : ad = ad' ∧ n = l.length ∧ cap = cap' := by cases e; exact ⟨rfl, rfl, rfl⟩
 obtain ⟨g, off, e, h3⟩ := h2 (by omega)
 refine ⟨g, off, e, fun j u hu => ?_⟩
 have hj : j < 21 := by
  have := (List.getElem?_eq_some_iff.1 hu).1
  simpa [encO, encU] using this
 have := h3 k hk j hj
 rw [show off + k * 21 + j = off + (k * 21 + j) by omega]
 exact cell_on1 hb (this.trans hu)
def encHd (h : Hd) : List Value := [.int .u32 h.s, .int .u32 h.d, .int .u16 h.p, .int .u16 h.q, .int .u8 h.r]
def hdZ : Hd := ⟨0, 0, 0, 0, 0⟩
def SrcH (w : World) (v : Value) (l : List Hd) : Prop :=
 ∃ (ad : Option Addr) (cap : Nat), v = .slice ad l.length cap ∧ (l.length ≤ cap ∧ (ad = none → cap = 0)) ∧ (0 < l.length → ∃ g off, ad = some ⟨g, off, none⟩ ∧ ∀ k (hk : k < l.length) j, j < 5 → w.cell? ⟨g, off + (k * 5 + j), none⟩ = (encHd (l[k]'hk))[j]?)
theorem SrcH.rng {w : World} {ad : Option Addr} {n cap : Nat} {l : List Hd} (h : SrcH w (.slice ad n cap) l) (W : World) (hb : Below w.heap.size w W) (k : Nat) (hk : k < l.length) : ∃ g off, ad = some ⟨g, off, none⟩ ∧ W.rangeAt g (off + k * 5) (encHd (l[k]'hk)) := by
 obtain ⟨ad', cap', e, hc, h2⟩ := h
 obtain ⟨rfl, e2, rfl⟩ : ad = ad' ∧ n = l.length ∧ cap = cap' := by cases e; exact ⟨rfl, rfl, rfl⟩
 obtain ⟨g, off, e, h3⟩ := h2 (by omega)
 refine ⟨g, off, e, fun j u hu => ?_⟩
 have hj : j < 5 := by
  have := (List.getElem?_eq_some_iff.1 hu).1
  simpa [encHd] using this
 have := h3 k hk j hj
 rw [show off + k * 5 + j = off + (k * 5 + j) by omega]
 exact cell_on1 hb (this.trans hu)
theorem hds_of_cells {fuel : Nat} {v : Value} {y : DataW H × List MemPlace} (hfu : DataW.trod enc Tryz.prog w base spare held fuel 47 [v] = some y) : ∃ l : List Hd, SrcH w v l ∧ ∀ R ∈ l, OkH R := by
 rcases Go.Deep.open_slice Tryz.underlying47 hfu with ⟨hc, hx⟩ | ⟨a, len, cap, m, k, D, Pl, hc, _, hl, hm, hmm, hx, hall⟩
 ·simp at hc
  subst hc
  exact ⟨[], ⟨none, 0, rfl, ⟨Nat.le_refl _, fun _ => rfl⟩, fun h0 => absurd h0 (Nat.lt_irrefl _)⟩, fun s hs => by cases hs⟩
 ·simp at hc
  subst hc
  have hlm : len ≤ m := by rw [hmm]; split <;> omega
  have val : ∀ i, ∃ X : Hd, i < len → (∀ j, j < 5 → w.cell? ((a.add (i * 5)).add j) = (encHd X)[j]?) ∧ OkH X := by
   intro i
   by_cases hi : i < len
   ·obtain ⟨cs', h1, h2⟩ := hall i (by omega)
    rw [cells_Header] at h1
    obtain ⟨X, rfl, hb⟩ := hd_of_cells h2
    exact ⟨X, fun _ => ⟨fun j hj => cells_at h1 j hj, hb⟩⟩
   ·exact ⟨hdZ, fun h => absurd h hi⟩
  obtain ⟨f, hf⟩ : ∃ f : Nat → Hd, f = fun i => Classical.choose (val i) := ⟨_, rfl⟩
  have hF : ∀ i, i < len → (∀ j, j < 5 → w.cell? ((a.add (i * 5)).add j) = (encHd (f i))[j]?) ∧ OkH (f i) := by rw [hf]; exact fun i => Classical.choose_spec (val i)
  refine ⟨(List.range len).map f, ⟨some a, cap, by simp, ⟨by simpa using hl, fun e => by cases e⟩, fun h0 => ?_⟩, fun R hR => ?_⟩
  ·simp at h0
   have h00 := (hF 0 h0).1 0 (by decide)
   have hsp : a.spot = none := no_spot (h00.trans rfl)
   obtain ⟨b, off, spot⟩ := a
   simp only at hsp
   subst hsp
   refine ⟨b, off, rfl, fun i hi j hj => ?_⟩
   simp at hi
   have := (hF i hi).1 j hj
   rw [Addr.add_lit, Addr.add_lit, Nat.add_assoc] at this
   rw [this]
   simp
  ·obtain ⟨i, hi, rfl⟩ := List.mem_map.1 hR
   exact (hF i (List.mem_range.1 hi)).2
theorem open_hds {r : Reach} {b0 : Nat} {v : Value} {d : DataW H} {p : List MemPlace}
  (hv : Value.okWide Tryz.prog w r b0 47 v) (h : DataW.Trod enc Tryz.prog w base spare held 47 v d p) : ∃ l : List Hd, (SrcH w v l ∧ ∀ R ∈ l, OkH R) ∧ True := by
 obtain ⟨a0, len, cap, rfl⟩ := okWide_slice Tryz.underlying47 hv
 obtain ⟨fuel, hfu⟩ := h
 obtain ⟨l, h1⟩ := hds_of_cells (by simpa [Value.cells] using hfu)
 exact ⟨l, h1, trivial⟩
theorem open_is {r : Reach} {b0 : Nat} {v : Value} {d : DataW H} {p : List MemPlace}
  (hv : Value.okWide Tryz.prog w r b0 68 v) (h : DataW.Trod enc Tryz.prog w base spare held 68 v d p) : ∃ l : List Int, (SrcI w v l ∧ ∀ x ∈ l, I64 x) ∧ True := by
 obtain ⟨a0, len, cap, rfl⟩ := okWide_slice Tryz.underlying68 hv
 obtain ⟨fuel, hf⟩ := h
 rcases open_ints Tryz.underlying68 Tryz.underlying3 cells_int hf with ⟨hc, hx⟩ | ⟨a, len', cap', zs, hc, _, hl, hm, hz, hx, hcell, hwz⟩
 ·simp [Value.cells] at hc
  obtain ⟨rfl, rfl, rfl⟩ := hc
  exact ⟨[], ⟨⟨none, 0, rfl, fun h0 => by simp at h0⟩, by simp⟩, trivial⟩
 ·simp [Value.cells] at hc
  obtain ⟨rfl, rfl, rfl⟩ := hc
  have hlz : len ≤ zs.length := by rw [hz]; split <;> omega
  have hlen : (zs.take len).length = len := by simp; omega
  refine ⟨zs.take len, ⟨⟨some a, cap, by rw [hlen], fun h0 => ?_⟩, fun x hx => wf_sgn (hwz x (List.mem_of_mem_take hx))⟩, trivial⟩
  rw [hlen] at h0
  obtain ⟨ab, ao, spot⟩ := a
  have hspot : spot = none := by simpa [Addr.add] using World.cell?_spot (hcell 0 (by omega))
  subst hspot
  refine ⟨ab, ao, rfl, fun k hk => ?_⟩
  rw [hlen] at hk
  have hck := hcell k (by omega)
  rw [Addr.add_lit] at hck
  have hgk : zs.getD k 0 = zs[k]'(by omega) := by simp [show k < zs.length by omega]
  rw [hck, hgk]
  simp only [List.getElem_take]
end Go.Proofs.YtabkbfopklpckaaGreat
