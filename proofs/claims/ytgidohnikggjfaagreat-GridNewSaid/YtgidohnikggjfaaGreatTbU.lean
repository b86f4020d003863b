/-
  Rows of rules. (The same as in the texts of syntax, over the rules of RuPlain.)
-/
import Derived.Test.YtgidohnikggjfaaGreatTbRa
import Derived.Maps.AppendAt
import Derived.OwnWalk
import Derived.Deep.AppendLies
import Derived.Laws.CopyOwn
namespace Go.Proofs.YtgidohnikggjfaaGreat
open Go.RowKit
set_option linter.unusedVariables false
set_option linter.unusedSimpArgs false

def encU (p : Ru) : List Value := [.int .i64 p.i, .int .u32 (p.s : Int), .int .i64 p.sl, .int .u32 (p.d : Int), .int .i64 p.dl, .int .u16 (p.p.1 : Int), .int .u16 (p.p.2 : Int), .int .u16 (p.q.1 : Int), .int .u16 (p.q.2 : Int), .int .u8 (p.m.1 : Int), .int .u8 (p.m.2 : Int), .int .i64 p.act]
def flatU : List (Ru) → List Value
  | [] => []
  | p :: l => encU p ++ flatU l
theorem flatU_length (l : List (Ru)) : (flatU l).length = l.length * 12 := by
  induction l with
  | nil => rfl
  | cons p l ih => simp only [flatU, encU, List.length_append, List.length_cons, List.length_nil, ih]; omega
theorem flatU_append (l k : List (Ru)) : flatU (l ++ k) = flatU l ++ flatU k := by
  induction l with
  | nil => rfl
  | cons p l ih => simp only [flatU, List.cons_append, ih, List.append_assoc]
theorem flatU_one (l : List (Ru)) : ∀ u ∈ flatU l, u.oneCell' = true := by
  induction l with
  | nil => intro u hu; cases hu
  | cons p l ih =>
    intro u hu
    simp only [flatU, List.mem_append] at hu
    rcases hu with hu | hu
    · simp only [encU, List.mem_cons, List.not_mem_nil, or_false] at hu
      rcases hu with rfl | rfl | rfl | rfl | rfl | rfl | rfl | rfl | rfl | rfl | rfl | rfl <;> rfl
    · exact ih u hu
theorem flatU_at : ∀ (l : List (Ru)) (i : Nat) (h : i < l.length) (j : Nat) (hj : j < 12), (flatU l)[i * 12 + j]? = (encU (l[i]'h))[j]?
  | p :: l, 0, _, j, hj => by
    rw [Nat.zero_mul, Nat.zero_add]
    exact List.getElem?_append_left (by simp [encU]; omega)
  | p :: l, i + 1, h, j, hj => by
    have := flatU_at l i (by simpa using h) j hj
    show (encU p ++ flatU l)[(i + 1) * 12 + j]? = _
    rw [List.getElem?_append_right (by simp [encU]; omega), show (i + 1) * 12 + j - (encU p).length = i * 12 + j by simp [encU]; omega]
    exact this
theorem infoU : (Tryz.prog.info? 64).map (fun i => (i.zero, i.size, i.bytes)) = some (some (.agg #[.int .i64 0, .int .u32 0, .int .i64 0, .int .u32 0, .int .i64 0, .int .u16 0, .int .u16 0, .int .u16 0, .int .u16 0, .int .u8 0, .int .u8 0, .int .i64 0]), 12, 64) := by kernel_rfl
/-- The row v of w holds the list. -/
def RowU (w : World) (base : Nat) (v : Value) (l : List (Ru)) : Prop := w.ownsRow base 64 12 v l.length (flatU l)
theorem RowU.base {w : World} {b b' : Nat} {v : Value} {l : List (Ru)} (h : RowU w b v l) (hb : b' ≤ b) : RowU w b' v l := by
  refine ⟨h.1, ?_⟩
  rcases h.2 with h2 | ⟨g, cap, cur, hv, hg, r⟩
  · exact .inl h2
  · exact .inr ⟨g, cap, cur, hv, by omega, r⟩
theorem RowU.on {w w1 : World} {b : Nat} {v : Value} {l : List (Ru)} (h : RowU w b v l) (hb : Below w.heap.size w w1) : RowU w1 b v l := by
  refine ⟨h.1, ?_⟩
  rcases h.2 with h2 | ⟨g, cap, cur, hv, hg, hh, r⟩
  · exact .inl h2
  · exact .inr ⟨g, cap, cur, hv, hg, by rw [hb.block g (Array.getElem?_eq_some_iff.1 hh).1]; exact hh, r⟩
theorem RowU.alloc {w : World} {b : Nat} {v : Value} {l : List (Ru)} (h : RowU w b v l) (o : Obj) : RowU (w.alloc o) b v l := World.ownsRow.alloc h o
theorem RowU.drew {w : World} {b : Nat} {v : Value} {l : List (Ru)} (h : RowU w b v l) : RowU w.drew b v l := h
theorem RowU.nil (w : World) (b : Nat) : RowU w b (.slice none 0 0) [] := World.ownsRow_nil w b _ _
theorem RowU.one (w : World) (b : Nat) (p : Ru) (hb : b ≤ w.heap.size) : RowU (w.alloc (.cells #[.int .i64 p.i, .int .u32 (p.s : Int), .int .i64 p.sl, .int .u32 (p.d : Int), .int .i64 p.dl, .int .u16 (p.p.1 : Int), .int .u16 (p.p.2 : Int), .int .u16 (p.q.1 : Int), .int .u16 (p.q.2 : Int), .int .u8 (p.m.1 : Int), .int .u8 (p.m.2 : Int), .int .i64 p.act] 64)) b (.slice (some ⟨w.heap.size, 0, none⟩) 1 1) [p] :=
  World.ownsRow_lit w #[.int .i64 p.i, .int .u32 (p.s : Int), .int .i64 p.sl, .int .u32 (p.d : Int), .int .i64 p.dl, .int .u16 (p.p.1 : Int), .int .u16 (p.p.2 : Int), .int .u16 (p.q.1 : Int), .int .u16 (p.q.2 : Int), .int .u8 (p.m.1 : Int), .int .u8 (p.m.2 : Int), .int .i64 p.act] 1 hb (by simp [maxLen]) rfl
theorem RowU.lt {w : World} {b : Nat} {v : Value} {l : List (Ru)} (h : RowU w b v l) : ∀ k, v.ownBlock = some k → b ≤ k ∧ k < w.heap.size := World.ownsRow.lt h
theorem RowU.put {w : World} {b : Nat} {v : Value} {l : List (Ru)} (h : RowU w b v l) {g i : Nat} (hg : some g ≠ v.ownBlock) (u : Value) : RowU (w.setCell ⟨g, i, none⟩ u) b v l := by
  refine ⟨h.1, ?_⟩
  rcases h.2 with h2 | ⟨g', cap, cur, hv, hb, hh, r⟩
  · exact .inl h2
  · exact .inr ⟨g', cap, cur, hv, hb, by rw [Below.heap_setCell _ _ _ _ (by intro e; apply hg; rw [hv]; simp [Value.ownBlock, e])]; exact hh, r⟩
/-- One owned row behind another. -/
theorem run_appendU (w : World) (ty : TypeId) (b : Nat) (v : Value) (l : List (Ru)) (h : RowU w b v l) (c : Nat) (u : Value) (k : List (Ru)) (hk : RowU w c u k)
    (hb : b ≤ w.heap.size) (hsz : l.length + k.length ≤ 4294967296) :
    ∃ v' w', (Builtin.append_ #[56, 56] ty #[v, u]).run Tryz.prog w = .ok v' w' ∧ RowU w' b v' (l ++ k) ∧ w.grownBy w' v.ownBlock := by
  obtain ⟨i0, hi, hz0, hz1, hz2⟩ := info_parts infoU
  have hmx : l.length + k.length ≤ maxLen := by unfold maxLen; omega
  rcases hk.2 with ⟨rfl, hk0⟩ | ⟨g, cap, cur, rfl, hg, hh, hnc, hcm, hcs, htk⟩
  · have hr := run_append_owned_none (P := Tryz.prog) (w := w) b 56 ty 64 i0 12 Tryz.underlying56 hi v l.length (flatU l) h
    refine ⟨v, w, hr, ?_, ⟨rfl, rfl, rfl, Nat.le_refl _, fun _ _ _ => rfl⟩⟩
    rw [List.eq_nil_of_length_eq_zero hk0, List.append_nil]
    exact h
  · have hn := World.ownsRow.cells hk (g := g) rfl
    obtain ⟨v', w', hr, ho, hgr, _⟩ := run_append_own (P := Tryz.prog) w b 56 ty 64 i0 (.agg #[.int .i64 0, .int .u32 0, .int .i64 0, .int .u32 0, .int .i64 0, .int .u16 0, .int .u16 0, .int .u16 0, .int .u16 0, .int .u8 0, .int .u8 0, .int .i64 0]) 12 64 Tryz.underlying56 hi hz0 hz1 hz2 rfl (by decide) v l.length (flatU l) h ⟨g, 0, none⟩ k.length cap (flatU k) (flatU_length k) hn (flatU_one k) hmx (by omega) hb
    refine ⟨v', w', hr, ?_, hgr⟩
    unfold RowU
    rw [List.length_append, flatU_append]
    exact ho
theorem wp_appendU {o : Oper} {a : Act} {w : World} {K : Act → World → Prop} {Q : Exit → Act → World → Prop} (s x : Operand)
    (ho : o.op = .call { callee := .builtin .append, args := #[s, x], argTypes := #[56, 56] })
    (b : Nat) (v : Value) (l : List (Ru)) (hs : a.eval s = v) (h : RowU w b v l) (c : Nat) (u : Value) (k : List (Ru)) (hx : a.eval x = u) (hk : RowU w c u k)
    (hb : b ≤ w.heap.size) (hsz : l.length + k.length ≤ 4294967296)
    (hK : ∀ v' w', RowU w' b v' (l ++ k) → w.grownBy w' v.ownBlock → K (a.put o.dst v') w') : o.wp Tryz.prog a w K Q := by
  obtain ⟨v', w', hr, h2, h3⟩ := run_appendU w o.type b v l h c u k hk hb hsz
  unfold Oper.wp execOp
  simp only [ho, resolve, invoke, builtin, Sem.run_bind, Sem.run_pure, Result.andThen_ok, List.map_toArray, List.map_cons, List.map_nil, hs, hx, hr]
  exact hK v' w' h2 h3
theorem wpList_appendU {ops : Array Oper} {rest : List Oper} {o : Oper} {a : Act} {w : World} {Q : Exit → Act → World → Prop} (hgd : o.guard = none) (s x : Operand)
    (ho : o.op = .call { callee := .builtin .append, args := #[s, x], argTypes := #[56, 56] })
    (b : Nat) (v : Value) (l : List (Ru)) (hs : a.eval s = v) (h : RowU w b v l) (c : Nat) (u : Value) (k : List (Ru)) (hx : a.eval x = u) (hk : RowU w c u k)
    (hb : b ≤ w.heap.size) (hsz : l.length + k.length ≤ 4294967296)
    (hK : ∀ v' w', RowU w' b v' (l ++ k) → w.grownBy w' v.ownBlock → wpList Tryz.prog ops Q rest (a.put o.dst v') w') : wpList Tryz.prog ops Q (o :: rest) a w :=
  wpList_plain hgd fun _ hK' => wp_appendU s x ho b v l hs h c u k hx hk hb hsz fun v' w' h2 h3 => hK' _ _ (hK v' w' h2 h3)
theorem bel_grownU {B : Nat} {a w w' : World} {b : Nat} {v : Value} {l : List (Ru)} (h : Below B a w) (hr : RowU w b v l) (hg : w.grownBy w' v.ownBlock) (hB : B ≤ w.heap.size) (hb : B ≤ b) : Below B a w' :=
  h.grown hg hB fun k hk => Nat.le_trans hb (hr.lt k hk).1
/-- What a row looks like. -/
theorem RowU.form {w : World} {b : Nat} {v : Value} {l : List (Ru)} (h : RowU w b v l) :
    ∃ (ad : Option Addr) (cap : Nat), v = .slice ad l.length cap ∧ l.length ≤ cap ∧ (0 < l.length → ∃ g, ad = some ⟨g, 0, none⟩ ∧ b ≤ g ∧ g < w.heap.size ∧ ∀ k (hk : k < l.length) j, j < 12 → w.cell? ⟨g, k * 12 + j, none⟩ = (encU (l[k]'hk))[j]?) := by
  rcases h.2 with ⟨hv, hn⟩ | ⟨g, cap, cur, hv, hb, hg, hcap, r⟩
  · exact ⟨none, 0, by rw [hv, hn], by omega, fun h0 => by omega⟩
  · subst hv
    refine ⟨_, cap, rfl, hcap, fun _ => ⟨g, rfl, hb, (Array.getElem?_eq_some_iff.1 hg).1, fun k hk j hj => ?_⟩⟩
    have h' : w.ownsRow b 64 12 (.slice (some ⟨g, 0, none⟩) l.length cap) l.length (flatU l) := h
    rw [h'.cellAt (k * 12 + j) (by omega), flatU_at l k hk j hj]
theorem RowU.frozen {w : World} {b g cap n : Nat} {l : List (Ru)} (h : RowU w b (.slice (some ⟨g, 0, none⟩) n cap) l) (j : Nat) : w.frozen? ⟨g, j, none⟩ = false := by
  rcases h.2 with ⟨hv, _⟩ | ⟨g', cap', cur, hv, hb, hg, r⟩
  · cases hv
  · cases hv; simp [World.frozen?, hg]

end Go.Proofs.YtgidohnikggjfaaGreat
