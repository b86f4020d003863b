/-
  The list beside the table; the document's Put and Delete in one form. Written by tools/mkHiD.py.
-/
import Derived.Test.YthfjdoenofkghaaHiC
import Derived.Test.YthfjdoenofkghaaHhFo
import Derived.Test.YthfjdoenofkghaaHhX
import Derived.Lib.MinMax
namespace Go.Proofs.Ythfjdoenofkghaa
open Go.RowKit
set_option linter.unusedVariables false
set_option linter.unusedSimpArgs false

theorem srcO_at {w : World} {ad : Option Addr} {n cap : Nat} {l : List Oy} (h : SrcO w (.slice ad n cap) l) {i : Nat} {q : Oy} (hq : l[i]? = some q) : ∃ g off, ad = some ⟨g, off, none⟩ ∧ g < w.heap.size ∧ w.cell? ⟨g, off + i * 7, none⟩ = some (.int .i64 q.i) ∧ w.cell? ⟨g, off + i * 7 + 1, none⟩ = some (.int .u32 (q.k.s : Int)) ∧ w.cell? ⟨g, off + i * 7 + 2, none⟩ = some (.int .u32 (q.k.d : Int)) ∧ w.cell? ⟨g, off + i * 7 + 3, none⟩ = some (.int .u16 (q.k.p : Int)) ∧ w.cell? ⟨g, off + i * 7 + 4, none⟩ = some (.int .u16 (q.k.q : Int)) ∧ w.cell? ⟨g, off + i * 7 + 5, none⟩ = some (.int .u8 (q.k.r : Int)) ∧ w.cell? ⟨g, off + i * 7 + 6, none⟩ = some (.int .i64 q.v) := by
  obtain ⟨hlt, he⟩ := List.getElem?_eq_some_iff.1 hq
  obtain ⟨ad', c, e, _, h2⟩ := h
  cases e
  obtain ⟨g, off, rfl, hc⟩ := h2 (by omega)
  have h7 := hc i hlt
  rw [he] at h7
  have z0 := h7 0 (by decide)
  exact ⟨g, off, rfl, World.block_lt_of_cell? _ _ (z0.trans rfl), z0, h7 1 (by decide), h7 2 (by decide), h7 3 (by decide), h7 4 (by decide), h7 5 (by decide), h7 6 (by decide)⟩
theorem srcO_form {w : World} {v : Value} {l : List Oy} (h : SrcO w v l) : ∃ ad cap, v = .slice ad l.length cap := by
  obtain ⟨ad, c, e, _⟩ := h
  exact ⟨ad, c, e⟩
/-- The document's list, apart from the table's blocks. -/
def Li (w : World) (t : Nat) (tv u : Value) (D : List Ey) : Prop := SrcY w u D ∧ ∀ b, u.ownBlock = some b → b < w.heap.size ∧ b ≠ t ∧ tv.ownBlock ≠ some b
section
variable {w w' : World} {t : Nat} {tv tv' u : Value} {D : List Ey}
theorem Li.on (h : Li w t tv u D) (hb : Below w.heap.size w w') : Li w' t tv u D := ⟨h.1.keep hb, fun b e => by obtain ⟨h1, h2⟩ := h.2 b e; exact ⟨Nat.lt_of_lt_of_le h1 hb.size, h2⟩⟩
theorem Li.moved (h : Li w t tv u D) (hm : Moved w w' t tv tv') : Li w' t tv' u D := by
  refine ⟨h.1.stay fun k e hk => ?_, fun b e => ?_⟩
  · obtain ⟨h1, h2, h3⟩ := h.2 k e
    exact hm.block k hk h2 h3
  · obtain ⟨h1, h2, h3⟩ := h.2 b e
    refine ⟨Nat.lt_of_lt_of_le h1 hm.size, h2, fun e2 => ?_⟩
    rcases hm.own b e2 with h4 | h4
    · exact h3 h4
    · omega
/-- A list that comes back: the one that was handed in, or one of the call's own. -/
def BackY (w w' : World) (u u' : Value) (D' : List Ey) : Prop := SrcY w' u' D' ∧ (u' = u ∨ ∀ b, u'.ownBlock = some b → w.heap.size ≤ b ∧ b < w'.heap.size)
theorem Li.back {W : World} {M c P : Nat} {m : Hd → Option Int} {u' : Value} {D' : List Ey} (h : Li w t tv u D) (hg : Og W w t tv M c P m) (hb : Below w.heap.size w w') (ho : BackY w w' u u' D') : Li w' t tv u' D' := by
  refine ⟨ho.1, fun b e => ?_⟩
  rcases ho.2 with rfl | h2
  · exact (h.on hb).2 b e
  · obtain ⟨h3, h4⟩ := h2 b e
    exact ⟨h4, by have := hg.a.lt; omega, fun e2 => by have := hg.a.own _ e2; omega⟩
end
theorem rputY (u : Value) (m : Hd → Option Int) (D : List Ey) (M c : Nat) (k : Hd) (y : Int) (w : World) (hs : SrcY w u D) (hT : Tells m D) (hl : D.length ≤ 200000) (o : OkH k) (hc : c = D.length) :
    Calls Try.prog 11 #[u, .int .i64 (M : Int), .agg #[.int .u32 (k.s : Int), .int .u32 (k.d : Int), .int .u16 (k.p : Int), .int .u16 (k.q : Int), .int .u8 (k.r : Int)], .int .i64 y] w fun e w' => ∃ u' D', e = .returned (.tuple #[u', .int .i64 (putE m M c k)]) ∧ Tells (putM m M c k y) D' ∧ putN m M c k = D'.length ∧ BackY w w' u u' D' ∧ Below w.heap.size w w' := by
  subst hc
  cases hm : m k with
  | some y0 =>
    have hi : (m k).isSome = true := by rw [hm]; rfl
    refine (rputSet u m D M k y w hs hT hl o hi).mono ?_
    rintro e w' ⟨v', rfl, hO, hb⟩
    have hx := (List.getElem?_eq_some_iff.1 (hT.at_some o hm)).1
    refine ⟨v', _, ?_, ?_, ?_, ⟨hO.1, .inr hO.2⟩, hb⟩
    · unfold putE; rw [if_pos hi]
    · unfold putM; rw [if_pos hi]; exact hT.set o hi
    · unfold putN; rw [if_pos hi]; simp; omega
  | none =>
    by_cases hM : M ≤ D.length
    · refine (rputFull u m D M k y w hs hT hl o hm hM).mono ?_
      rintro e w' ⟨rfl, hb⟩
      exact ⟨u, D, by rw [putE_full hm hM], by rw [putM_full hm hM]; exact hT, putN_full hm hM, ⟨hs.keep hb, .inl rfl⟩, hb⟩
    · refine (rputIns u m D M k y w hs hT hl o hm (by omega)).mono ?_
      rintro e w' ⟨v', rfl, hO, hb⟩
      refine ⟨v', _, by rw [putE_no hm (by omega)], by rw [putM_no hm (by omega)]; exact hT.ins o hm, ?_, ⟨hO.1, .inr hO.2⟩, hb⟩
      have := plY_le D k
      rw [putN_no hm (by omega)]; simp; omega
theorem rdelY (u : Value) (m : Hd → Option Int) (D : List Ey) (c : Nat) (k : Hd) (w : World) (hs : SrcY w u D) (hT : Tells m D) (hl : D.length ≤ 200000) (o : OkH k) (hc : c = D.length) :
    Calls Try.prog 15 #[u, .agg #[.int .u32 (k.s : Int), .int .u32 (k.d : Int), .int .u16 (k.p : Int), .int .u16 (k.q : Int), .int .u8 (k.r : Int)]] w fun e w' => ∃ u' D', e = .returned (.tuple #[u', .bool (m k).isSome]) ∧ Tells (upd m k none) D' ∧ delN m c k = D'.length ∧ BackY w w' u u' D' ∧ Below w.heap.size w w' := by
  subst hc
  cases hm : m k with
  | some y0 =>
    have hi : (m k).isSome = true := by rw [hm]; rfl
    refine (rdelYes u m D k w hs hT hl o hi).mono ?_
    rintro e w' ⟨v', rfl, hO, hb⟩
    have hx := (List.getElem?_eq_some_iff.1 (hT.at_some o hm)).1
    refine ⟨v', _, rfl, hT.out o hi, ?_, ⟨hO.1, .inr hO.2⟩, hb⟩
    unfold delN; rw [if_pos hi]; simp; omega
  | none =>
    refine (rdelNo u m D k w hs hT hl o hm).mono ?_
    rintro e w' ⟨rfl, hb⟩
    exact ⟨u, D, rfl, hT.del_none hm, by unfold delN; rw [hm, if_neg (by simp)], ⟨hs.keep hb, .inl rfl⟩, hb⟩

end Go.Proofs.Ythfjdoenofkghaa
