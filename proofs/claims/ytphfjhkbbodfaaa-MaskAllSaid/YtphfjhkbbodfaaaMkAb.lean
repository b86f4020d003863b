/-
  What lies in memory between two rounds of MaskAll's loops.
-/
import Derived.Test.YtphfjhkbbodfaaaMkRab
import Derived.Test.YtphfjhkbbodfaaaMkUB
namespace Go.Proofs.Ytphfjhkbbodfaaa
open Go.RowKit Go.Shelf
set_option linter.unusedVariables false
set_option linter.unusedSimpArgs false

/-- The numbers. -/
def nums (l : List Byx) : List Nat := l.map fun x => x.1
theorem next_any {D pre : List Byx} {x : Byx} (hp : pre <+: D) (hk : pre.length < D.length) : pre ++ [x] <+: D ↔ x.1 = (nums D)[pre.length]'(by simpa [nums] using hk) := by
  obtain ⟨t, rfl⟩ := hp
  cases t with
  | nil => simp at hk
  | cons y t =>
    have e : (nums (pre ++ y :: t))[pre.length]'(by simp [nums]) = y.1 := by simp [nums]
    rw [e, List.prefix_append_right_inj, List.cons_prefix_cons]
    constructor
    · intro h; rw [h.1]
    · intro h; exact ⟨Subtype.ext h, List.nil_prefix⟩
theorem RowB.shape {w : World} {b : Nat} {v : Value} {l : List Nat} (h : RowB w b v l) :
    ∃ (ad : Option Addr) (cap : Nat), v = .slice ad l.length cap ∧ (0 < l.length → ∃ g, ad = some ⟨g, 0, none⟩ ∧ b ≤ g ∧ g < w.heap.size ∧ ∀ k (hk : k < l.length), w.cell? ⟨g, k, none⟩ = some (.int .u8 ((l[k]'hk : Nat) : Int))) := by
  rcases h.2 with ⟨hv, hn⟩ | ⟨g, cap, cur, hv, hb, hg, hcap, r⟩
  · exact ⟨none, 0, by rw [hv, hn], fun h0 => by omega⟩
  · subst hv
    refine ⟨_, cap, rfl, fun _ => ⟨g, rfl, hb, (Array.getElem?_eq_some_iff.1 hg).1, fun k hk => ?_⟩⟩
    have := World.ownsRow.cells h (g := g) rfl k _ (flatB_at l k hk)
    rw [Addr.add_lit, Nat.zero_add] at this
    exact this
theorem frozen_on {W w1 : World} (hb : Below W.heap.size W w1) {p : Addr} {v : Value} (h : W.cell? p = some v) {c : Bool} (hf : W.frozen? p = c) : w1.frozen? p = c := (hb.frozen (World.block_lt_of_cell? W p h)).trans hf
theorem frozen_alloc {W : World} {o : Obj} {b i : Nat} {v : Value} (h : W.cell? ⟨b, i, none⟩ = some v) {c : Bool} (hf : W.frozen? ⟨b, i, none⟩ = c) : (W.alloc o).frozen? ⟨b, i, none⟩ = c := (World.frozen?_alloc_past o b i (World.block_lt_of_cell? W _ h)).trans hf

/-- The cells that stay: early, the answer, want, the iterator, its prefix, want's row; the counter k. b: the first block of the call; c: want's box. -/
structure Inv (b c a n : Nat) (vad : Option Addr) (cap : Nat) (E : Int) (L : List Nat) (k : Int) (W : World) : Prop where
  early : W.cell? ⟨b + 1, 0, none⟩ = some (.int .i64 E)
  ans : W.cell? ⟨b + 1 + 1, 0, none⟩ = some (.bool false)
  ansF : W.frozen? ⟨b + 1 + 1, 0, none⟩ = false
  want : W.cell? ⟨c, 0, none⟩ = some (.slice vad L.length cap)
  pre0 : W.cell? ⟨c + 1, 0, none⟩ = some (.int .u8 (a : Int))
  pre1 : W.cell? ⟨c + 1, 1, none⟩ = some (.int .u8 (n : Int))
  seq : W.cell? ⟨c + 1 + 1, 0, none⟩ = some (.func (.func 30) #[] #[.pointer (some ⟨c + 1, 0, none⟩)])
  cnt : W.cell? ⟨c + 1 + 1 + 1, 0, none⟩ = some (.int .i64 k)
  cntF : W.frozen? ⟨c + 1 + 1 + 1, 0, none⟩ = false
  row : 0 < L.length → ∃ g, vad = some ⟨g, 0, none⟩ ∧ g < c ∧ b + 1 + 1 < g ∧ ∀ j (hj : j < L.length), W.cell? ⟨g, j, none⟩ = some (.int .u8 ((L[j]'hj : Nat) : Int))
theorem Inv.kept {b c a n : Nat} {vad : Option Addr} {cap : Nat} {E : Int} {L : List Nat} {k : Int} {A B : World} {row : Option Nat} (h : Inv b c a n vad cap E L k A) (hg : A.grownBy B row) (hr : ∀ r, row = some r → ∃ o : Obj, A.heap[r]? = some o ∧ o.isCells = false) : Inv b c a n vad cap E L k B := {
  early := cell_kept h.early hg hr
  ans := cell_kept h.ans hg hr
  ansF := (frozen_kept h.ans hg hr).trans h.ansF
  want := cell_kept h.want hg hr
  pre0 := cell_kept h.pre0 hg hr
  pre1 := cell_kept h.pre1 hg hr
  seq := cell_kept h.seq hg hr
  cnt := cell_kept h.cnt hg hr
  cntF := (frozen_kept h.cnt hg hr).trans h.cntF
  row := fun h0 => by
    obtain ⟨g, e, e1, e2, e3⟩ := h.row h0
    exact ⟨g, e, e1, e2, fun j hj => cell_kept (e3 j hj) hg hr⟩ }
theorem Inv.below {b c a n : Nat} {vad : Option Addr} {cap : Nat} {E : Int} {L : List Nat} {k : Int} {A B : World} (h : Inv b c a n vad cap E L k A) (hb : Below A.heap.size A B) : Inv b c a n vad cap E L k B :=
  h.kept (row := none) (grown_of_below hb) (fun r e => by cases e)
theorem Inv.own {β : Type} (b c a n : Nat) (vad : Option Addr) (cap : Nat) (E : Int) (L : List Nat) (f : β → Int) : Own (fun (s : β) W => Inv b c a n vad cap E L (f s) W) :=
  fun s A B row hs hg hr => hs.kept hg hr
/-- The counter is written anew. -/
theorem Inv.set {b c a n : Nat} {vad : Option Addr} {cap : Nat} {E : Int} {L : List Nat} {k : Int} {W : World} (h : Inv b c a n vad cap E L k W) (hbc : b + 1 + 1 < c) (k' : Int) : Inv b c a n vad cap E L k' (W.setCell ⟨c + 1 + 1 + 1, 0, none⟩ (.int .i64 k')) := by
  have o : ∀ (B i : Nat), B ≠ c + 1 + 1 + 1 → (W.setCell ⟨c + 1 + 1 + 1, 0, none⟩ (.int .i64 k')).cell? ⟨B, i, none⟩ = W.cell? ⟨B, i, none⟩ := fun B i hB => by
    exact World.cell?_of_block (a := ⟨B, i, none⟩) (Below.heap_setCell W ⟨c + 1 + 1 + 1, 0, none⟩ _ B hB)
  exact
    { early := by rw [o _ _ (by omega)]; exact h.early
      ans := by rw [o _ _ (by omega)]; exact h.ans
      ansF := by rw [World.frozen?_setCell]; exact h.ansF
      want := by rw [o _ _ (by omega)]; exact h.want
      pre0 := by rw [o _ _ (by omega)]; exact h.pre0
      pre1 := by rw [o _ _ (by omega)]; exact h.pre1
      seq := by rw [o _ _ (by omega)]; exact h.seq
      cnt := World.cell?_setCell_same' W ⟨c + 1 + 1 + 1, 0, none⟩ (.int .i64 k') (by rw [h.cnt]; rfl)
      cntF := by rw [World.frozen?_setCell]; exact h.cntF
      row := fun h0 => by
        obtain ⟨g, e, e1, e2, e3⟩ := h.row h0
        exact ⟨g, e, e1, e2, fun j hj => by rw [o _ _ (by omega)]; exact e3 j hj⟩ }
/-- Another block is written. -/
theorem Inv.other {b c a n : Nat} {vad : Option Addr} {cap : Nat} {E : Int} {L : List Nat} {k : Int} {W : World} (h : Inv b c a n vad cap E L k W) (hbc : b + 1 + 1 < c) {Bj : Nat} (hB : c + 1 + 1 + 1 < Bj) (u : Value) : Inv b c a n vad cap E L k (W.setCell ⟨Bj, 0, none⟩ u) := by
  have o : ∀ (B i : Nat), B ≠ Bj → (W.setCell ⟨Bj, 0, none⟩ u).cell? ⟨B, i, none⟩ = W.cell? ⟨B, i, none⟩ := fun B i hB => by
    exact World.cell?_of_block (a := ⟨B, i, none⟩) (Below.heap_setCell W ⟨Bj, 0, none⟩ _ B hB)
  exact
    { early := by rw [o _ _ (by omega)]; exact h.early
      ans := by rw [o _ _ (by omega)]; exact h.ans
      ansF := by rw [World.frozen?_setCell]; exact h.ansF
      want := by rw [o _ _ (by omega)]; exact h.want
      pre0 := by rw [o _ _ (by omega)]; exact h.pre0
      pre1 := by rw [o _ _ (by omega)]; exact h.pre1
      seq := by rw [o _ _ (by omega)]; exact h.seq
      cnt := by rw [o _ _ (by omega)]; exact h.cnt
      cntF := by rw [World.frozen?_setCell]; exact h.cntF
      row := fun h0 => by
        obtain ⟨g, e, e1, e2, e3⟩ := h.row h0
        exact ⟨g, e, e1, e2, fun j hj => by rw [o _ _ (by omega)]; exact e3 j hj⟩ }
theorem Inv.drew {b c a n : Nat} {vad : Option Addr} {cap : Nat} {E : Int} {L : List Nat} {k : Int} {W : World} (h : Inv b c a n vad cap E L k W) : Inv b c a n vad cap E L k W.drew :=
  h.kept (row := none) ⟨rfl, rfl, rfl, Nat.le_refl _, fun _ _ _ => rfl⟩ (fun r e => by cases e)
end Go.Proofs.Ytphfjhkbbodfaaa
