/-
  Lists of tokens in memory; 'append' of one owned row to another. Written by tools/mkLxU.py.
-/
import Derived.Test.YtehedlgdencboabGreatDoorLxPlB
import Derived.Test.YtehedlgdencboabGreatDoorProg
import Derived.Test.YtehedlgdencboabGreatDoorPxKin
import Derived.Maps.AppendAt
import Derived.OwnWalk
namespace Go.Proofs.YtehedlgdencboabGreatDoor
open Go.RowKit
set_option linter.unusedVariables false
set_option linter.unusedSimpArgs false

def encT (p : Tk) : List Value := [.int .i64 (p.k : Int), .string p.t, .int .u32 (p.v : Int), .int .i64 (p.l : Int), .int .i64 (p.c : Int)]
def flatT : List (Tk) → List Value
  | [] => []
  | p :: l => encT p ++ flatT l
theorem flatT_length (l : List (Tk)) : (flatT l).length = l.length * 5 := by
  induction l with
  | nil => rfl
  | cons p l ih => simp only [flatT, encT, List.length_append, List.length_cons, List.length_nil, ih]; omega
theorem flatT_append (l k : List (Tk)) : flatT (l ++ k) = flatT l ++ flatT k := by
  induction l with
  | nil => rfl
  | cons p l ih => simp only [flatT, List.cons_append, ih, List.append_assoc]
theorem flatT_one (l : List (Tk)) : ∀ u ∈ flatT l, u.oneCell' = true := by
  induction l with
  | nil => intro u hu; cases hu
  | cons p l ih =>
    intro u hu
    simp only [flatT, List.mem_append] at hu
    rcases hu with hu | hu
    · simp only [encT, List.mem_cons, List.not_mem_nil, or_false] at hu
      rcases hu with rfl | rfl | rfl | rfl | rfl <;> rfl
    · exact ih u hu
theorem flatT_at : ∀ (l : List (Tk)) (i : Nat) (h : i < l.length) (j : Nat) (hj : j < 5), (flatT l)[i * 5 + j]? = (encT (l[i]'h))[j]?
  | p :: l, 0, _, j, hj => by
    rw [Nat.zero_mul, Nat.zero_add]
    exact List.getElem?_append_left (by simp [encT]; omega)
  | p :: l, i + 1, h, j, hj => by
    have := flatT_at l i (by simpa using h) j hj
    show (encT p ++ flatT l)[(i + 1) * 5 + j]? = _
    rw [List.getElem?_append_right (by simp [encT]; omega), show (i + 1) * 5 + j - (encT p).length = i * 5 + j by simp [encT]; omega]
    exact this
theorem infoT : (Tryz.prog.info? 84).map (fun i => (i.zero, i.size, i.bytes)) = some (some (.agg #[.int .i64 0, .string ByteArray.empty, .int .u32 0, .int .i64 0, .int .i64 0]), 5, 48) := by kernel_rfl
/-- The row v of w holds the list. -/
def RowT (w : World) (base : Nat) (v : Value) (l : List (Tk)) : Prop := w.ownsRow base 84 5 v l.length (flatT l)
theorem RowT.base {w : World} {b b' : Nat} {v : Value} {l : List (Tk)} (h : RowT w b v l) (hb : b' ≤ b) : RowT w b' v l := by
  refine ⟨h.1, ?_⟩
  rcases h.2 with h2 | ⟨g, cap, cur, hv, hg, r⟩
  · exact .inl h2
  · exact .inr ⟨g, cap, cur, hv, by omega, r⟩
theorem RowT.on {w w1 : World} {b : Nat} {v : Value} {l : List (Tk)} (h : RowT w b v l) (hb : Below w.heap.size w w1) : RowT w1 b v l := by
  refine ⟨h.1, ?_⟩
  rcases h.2 with h2 | ⟨g, cap, cur, hv, hg, hh, r⟩
  · exact .inl h2
  · exact .inr ⟨g, cap, cur, hv, hg, by rw [hb.block g (Array.getElem?_eq_some_iff.1 hh).1]; exact hh, r⟩
theorem RowT.alloc {w : World} {b : Nat} {v : Value} {l : List (Tk)} (h : RowT w b v l) (o : Obj) : RowT (w.alloc o) b v l := World.ownsRow.alloc h o
theorem RowT.drew {w : World} {b : Nat} {v : Value} {l : List (Tk)} (h : RowT w b v l) : RowT w.drew b v l := h
theorem RowT.nil (w : World) (b : Nat) : RowT w b (.slice none 0 0) [] := World.ownsRow_nil w b _ _
theorem RowT.one (w : World) (b : Nat) (p : Tk) (hb : b ≤ w.heap.size) : RowT (w.alloc (.cells #[.int .i64 (p.k : Int), .string p.t, .int .u32 (p.v : Int), .int .i64 (p.l : Int), .int .i64 (p.c : Int)] 84)) b (.slice (some ⟨w.heap.size, 0, none⟩) 1 1) [p] :=
  World.ownsRow_lit w #[.int .i64 (p.k : Int), .string p.t, .int .u32 (p.v : Int), .int .i64 (p.l : Int), .int .i64 (p.c : Int)] 1 hb (by simp [maxLen]) rfl
theorem RowT.lt {w : World} {b : Nat} {v : Value} {l : List (Tk)} (h : RowT w b v l) : ∀ k, v.ownBlock = some k → b ≤ k ∧ k < w.heap.size := World.ownsRow.lt h
theorem RowT.put {w : World} {b : Nat} {v : Value} {l : List (Tk)} (h : RowT w b v l) {g i : Nat} (hg : some g ≠ v.ownBlock) (u : Value) : RowT (w.setCell ⟨g, i, none⟩ u) b v l := by
  refine ⟨h.1, ?_⟩
  rcases h.2 with h2 | ⟨g', cap, cur, hv, hb, hh, r⟩
  · exact .inl h2
  · exact .inr ⟨g', cap, cur, hv, hb, by rw [Below.heap_setCell _ _ _ _ (by intro e; apply hg; rw [hv]; simp [Value.ownBlock, e])]; exact hh, r⟩
/-- One owned row behind another. -/
theorem run_appendT (w : World) (ty : TypeId) (b : Nat) (v : Value) (l : List (Tk)) (h : RowT w b v l) (c : Nat) (u : Value) (k : List (Tk)) (hk : RowT w c u k)
    (hb : b ≤ w.heap.size) (hsz : l.length + k.length ≤ 4294967296) :
    ∃ v' w', (Builtin.append_ #[78, 78] ty #[v, u]).run Tryz.prog w = .ok v' w' ∧ RowT w' b v' (l ++ k) ∧ w.grownBy w' v.ownBlock := by
  obtain ⟨i0, hi, hz0, hz1, hz2⟩ := info_parts infoT
  have hmx : l.length + k.length ≤ maxLen := by unfold maxLen; omega
  rcases hk.2 with ⟨rfl, hk0⟩ | ⟨g, cap, cur, rfl, hg, hh, hnc, hcm, hcs, htk⟩
  · have hr := run_append_owned_none (P := Tryz.prog) (w := w) b 78 ty 84 i0 5 Tryz.underlying78 hi v l.length (flatT l) h
    refine ⟨v, w, hr, ?_, ⟨rfl, rfl, rfl, Nat.le_refl _, fun _ _ _ => rfl⟩⟩
    rw [List.eq_nil_of_length_eq_zero hk0, List.append_nil]
    exact h
  · have hn := World.ownsRow.cells hk (g := g) rfl
    obtain ⟨v', w', hr, ho, hgr, _⟩ := run_append_own (P := Tryz.prog) w b 78 ty 84 i0 (.agg #[.int .i64 0, .string ByteArray.empty, .int .u32 0, .int .i64 0, .int .i64 0]) 5 48 Tryz.underlying78 hi hz0 hz1 hz2 rfl (by decide) v l.length (flatT l) h ⟨g, 0, none⟩ k.length cap (flatT k) (flatT_length k) hn (flatT_one k) hmx (by omega) hb
    refine ⟨v', w', hr, ?_, hgr⟩
    unfold RowT
    rw [List.length_append, flatT_append]
    exact ho
theorem wp_appendT {o : Oper} {a : Act} {w : World} {K : Act → World → Prop} {Q : Exit → Act → World → Prop} (s x : Operand)
    (ho : o.op = .call { callee := .builtin .append, args := #[s, x], argTypes := #[78, 78] })
    (b : Nat) (v : Value) (l : List (Tk)) (hs : a.eval s = v) (h : RowT w b v l) (c : Nat) (u : Value) (k : List (Tk)) (hx : a.eval x = u) (hk : RowT w c u k)
    (hb : b ≤ w.heap.size) (hsz : l.length + k.length ≤ 4294967296)
    (hK : ∀ v' w', RowT w' b v' (l ++ k) → w.grownBy w' v.ownBlock → K (a.put o.dst v') w') : o.wp Tryz.prog a w K Q := by
  obtain ⟨v', w', hr, h2, h3⟩ := run_appendT w o.type b v l h c u k hk hb hsz
  unfold Oper.wp execOp
  simp only [ho, resolve, invoke, builtin, Sem.run_bind, Sem.run_pure, Result.andThen_ok, List.map_toArray, List.map_cons, List.map_nil, hs, hx, hr]
  exact hK v' w' h2 h3
theorem wpList_appendT {ops : Array Oper} {rest : List Oper} {o : Oper} {a : Act} {w : World} {Q : Exit → Act → World → Prop} (hgd : o.guard = none) (s x : Operand)
    (ho : o.op = .call { callee := .builtin .append, args := #[s, x], argTypes := #[78, 78] })
    (b : Nat) (v : Value) (l : List (Tk)) (hs : a.eval s = v) (h : RowT w b v l) (c : Nat) (u : Value) (k : List (Tk)) (hx : a.eval x = u) (hk : RowT w c u k)
    (hb : b ≤ w.heap.size) (hsz : l.length + k.length ≤ 4294967296)
    (hK : ∀ v' w', RowT w' b v' (l ++ k) → w.grownBy w' v.ownBlock → wpList Tryz.prog ops Q rest (a.put o.dst v') w') : wpList Tryz.prog ops Q (o :: rest) a w :=
  wpList_plain hgd fun _ hK' => wp_appendT s x ho b v l hs h c u k hx hk hb hsz fun v' w' h2 h3 => hK' _ _ (hK v' w' h2 h3)
theorem bel_grownT {B : Nat} {a w w' : World} {b : Nat} {v : Value} {l : List (Tk)} (h : Below B a w) (hr : RowT w b v l) (hg : w.grownBy w' v.ownBlock) (hB : B ≤ w.heap.size) (hb : B ≤ b) : Below B a w' :=
  h.grown hg hB fun k hk => Nat.le_trans hb (hr.lt k hk).1
/-- What a row looks like. -/
theorem RowT.form {w : World} {b : Nat} {v : Value} {l : List (Tk)} (h : RowT w b v l) :
    ∃ (ad : Option Addr) (cap : Nat), v = .slice ad l.length cap ∧ l.length ≤ cap ∧ (0 < l.length → ∃ g, ad = some ⟨g, 0, none⟩ ∧ b ≤ g ∧ g < w.heap.size ∧ ∀ k (hk : k < l.length) j, j < 5 → w.cell? ⟨g, k * 5 + j, none⟩ = (encT (l[k]'hk))[j]?) := by
  rcases h.2 with ⟨hv, hn⟩ | ⟨g, cap, cur, hv, hb, hg, hcap, r⟩
  · exact ⟨none, 0, by rw [hv, hn], by omega, fun h0 => by omega⟩
  · subst hv
    refine ⟨_, cap, rfl, hcap, fun _ => ⟨g, rfl, hb, (Array.getElem?_eq_some_iff.1 hg).1, fun k hk j hj => ?_⟩⟩
    have h' : w.ownsRow b 84 5 (.slice (some ⟨g, 0, none⟩) l.length cap) l.length (flatT l) := h
    rw [h'.cellAt (k * 5 + j) (by omega), flatT_at l k hk j hj]
theorem RowT.frozen {w : World} {b g cap n : Nat} {l : List (Tk)} (h : RowT w b (.slice (some ⟨g, 0, none⟩) n cap) l) (j : Nat) : w.frozen? ⟨g, j, none⟩ = false := by
  rcases h.2 with ⟨hv, _⟩ | ⟨g', cap', cur, hv, hb, hg, r⟩
  · cases hv
  · cases hv; simp [World.frozen?, hg]
end Go.Proofs.YtehedlgdencboabGreatDoor
