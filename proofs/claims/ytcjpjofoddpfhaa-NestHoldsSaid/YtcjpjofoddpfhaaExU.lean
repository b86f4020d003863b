/-
  Lists of stems in memory; 'append' of one owned row to another.
-/
import Derived.Test.YtcjpjofoddpfhaaExA
import Derived.Maps.AppendAt
import Derived.OwnWalk
namespace Go.Proofs.Ytcjpjofoddpfhaa.Xp
open Go.RowKit
set_option linter.unusedVariables false
set_option linter.unusedSimpArgs false

def flatT : List (Nat × Nat) → List Value
  | [] => []
  | p :: l => .int .u16 (p.1 : Int) :: .int .i64 (p.2 : Int) :: flatT l
theorem flatT_length (l : List (Nat × Nat)) : (flatT l).length = l.length * 2 := by
  induction l with
  | nil => rfl
  | cons p l ih => simp only [flatT, List.length_cons, ih]; omega
theorem flatT_append (l k : List (Nat × Nat)) : flatT (l ++ k) = flatT l ++ flatT k := by
  induction l with
  | nil => rfl
  | cons p l ih => simp only [flatT, List.cons_append, ih]
theorem flatT_one (l : List (Nat × Nat)) : ∀ u ∈ flatT l, u.oneCell' = true := by
  induction l with
  | nil => intro u hu; cases hu
  | cons p l ih =>
    intro u hu
    simp only [flatT, List.mem_cons] at hu
    rcases hu with rfl | rfl | hu
    · rfl
    · rfl
    · exact ih u hu
theorem flatT_at : ∀ (l : List (Nat × Nat)) (i : Nat) (h : i < l.length), (flatT l)[i * 2]? = some (.int .u16 ((l[i]'h).1 : Int)) ∧ (flatT l)[i * 2 + 1]? = some (.int .i64 ((l[i]'h).2 : Int))
  | p :: l, 0, _ => ⟨rfl, rfl⟩
  | p :: l, i + 1, h => by
    have := flatT_at l i (by simpa using h)
    rw [show (i + 1) * 2 = i * 2 + 2 by omega]
    exact this

theorem info_st : (Try.prog.info? 85).map (fun i => (i.zero, i.size, i.bytes)) = some (some (.agg #[.int .u16 0, .int .i64 0]), 2, 16) := by kernel_rfl

/-- The row v of w holds the list. -/
def RowT (w : World) (base : Nat) (v : Value) (l : List (Nat × Nat)) : Prop := w.ownsRow base 85 2 v l.length (flatT l)
theorem RowT.base {w : World} {b b' : Nat} {v : Value} {l : List (Nat × Nat)} (h : RowT w b v l) (hb : b' ≤ b) : RowT w b' v l := by
  refine ⟨h.1, ?_⟩
  rcases h.2 with h2 | ⟨g, cap, cur, hv, hg, r⟩
  · exact .inl h2
  · exact .inr ⟨g, cap, cur, hv, by omega, r⟩
theorem RowT.on {w w1 : World} {b : Nat} {v : Value} {l : List (Nat × Nat)} (h : RowT w b v l) (hb : Below w.heap.size w w1) : RowT w1 b v l := by
  refine ⟨h.1, ?_⟩
  rcases h.2 with h2 | ⟨g, cap, cur, hv, hg, hh, r⟩
  · exact .inl h2
  · exact .inr ⟨g, cap, cur, hv, hg, by rw [hb.block g (Array.getElem?_eq_some_iff.1 hh).1]; exact hh, r⟩
theorem RowT.alloc {w : World} {b : Nat} {v : Value} {l : List (Nat × Nat)} (h : RowT w b v l) (o : Obj) : RowT (w.alloc o) b v l := World.ownsRow.alloc h o
theorem RowT.nil (w : World) (b : Nat) : RowT w b (.slice none 0 0) [] := World.ownsRow_nil w b _ _
theorem RowT.one (w : World) (b a n : Nat) (hb : b ≤ w.heap.size) : RowT (w.alloc (.cells #[.int .u16 a, .int .i64 n] 85)) b (.slice (some ⟨w.heap.size, 0, none⟩) 1 1) [(a, n)] :=
  World.ownsRow_lit w #[.int .u16 a, .int .i64 n] 1 hb (by decide) rfl
theorem RowT.one2 (w : World) (b : Nat) {x y : Int} (a n : Nat) {B : Nat} (hB : B = w.heap.size) (hx : x = (a : Int)) (hy : y = (n : Int)) (hb : b ≤ w.heap.size) : RowT (w.alloc (.cells #[.int .u16 x, .int .i64 y] 85)) b (.slice (some ⟨B, 0, none⟩) 1 1) [(a, n)] := by
  subst hx hy hB; exact RowT.one w b a n hb
theorem RowT.lt {w : World} {b : Nat} {v : Value} {l : List (Nat × Nat)} (h : RowT w b v l) : ∀ k, v.ownBlock = some k → b ≤ k ∧ k < w.heap.size := World.ownsRow.lt h

theorem bel_grownT {B : Nat} {a w w' : World} {b : Nat} {v : Value} {l : List (Nat × Nat)} (h : Below B a w) (hr : RowT w b v l) (hg : w.grownBy w' v.ownBlock) (hB : B ≤ w.heap.size) (hb : B ≤ b) : Below B a w' :=
  h.grown hg hB fun k hk => Nat.le_trans hb (hr.lt k hk).1
theorem cell_onT {W w1 : World} (hb : Below W.heap.size W w1) {p : Addr} {v : Value} (h : W.cell? p = some v) : w1.cell? p = some v := by rw [hb.cell (World.block_lt_of_cell? W p h)]; exact h
theorem cell_allocT {w : World} {p : Addr} {v : Value} {o : Obj} (h : w.cell? p = some v) : (w.alloc o).cell? p = some v := cell_onT ((Below.refl _ _).alloc (Nat.le_refl _) o) h
/-- What a row looks like. -/
theorem RowT.form {w : World} {b : Nat} {v : Value} {l : List (Nat × Nat)} (h : RowT w b v l) :
    ∃ (ad : Option Addr) (cap : Nat), v = .slice ad l.length cap ∧ l.length ≤ cap ∧ (0 < l.length → ∃ g, ad = some ⟨g, 0, none⟩ ∧ b ≤ g ∧ g < w.heap.size ∧ ∀ k (hk : k < l.length), w.cell? ⟨g, k * 2, none⟩ = some (.int .u16 ((l[k]'hk).1 : Int)) ∧ w.cell? ⟨g, k * 2 + 1, none⟩ = some (.int .i64 ((l[k]'hk).2 : Int))) := by
  rcases h.2 with ⟨hv, hn⟩ | ⟨g, cap, cur, hv, hb, hg, hcap, r⟩
  · exact ⟨none, 0, by rw [hv, hn], by omega, fun h0 => by omega⟩
  · subst hv
    refine ⟨_, cap, rfl, hcap, fun _ => ⟨g, rfl, hb, (Array.getElem?_eq_some_iff.1 hg).1, fun k hk => ?_⟩⟩
    have h' : w.ownsRow b 85 2 (.slice (some ⟨g, 0, none⟩) l.length cap) l.length (flatT l) := h
    have hf := flatT_at l k hk
    exact ⟨by rw [h'.cellAt (k * 2) (by omega), hf.1], by rw [h'.cellAt (k * 2 + 1) (by omega), hf.2]⟩
theorem RowT.frozen {w : World} {b g cap n : Nat} {l : List (Nat × Nat)} (h : RowT w b (.slice (some ⟨g, 0, none⟩) n cap) l) (j : Nat) : w.frozen? ⟨g, j, none⟩ = false := by
  rcases h.2 with ⟨hv, _⟩ | ⟨g', cap', cur, hv, hb, hg, r⟩
  · cases hv
  · cases hv; simp [World.frozen?, hg]
end Go.Proofs.Ytcjpjofoddpfhaa.Xp
