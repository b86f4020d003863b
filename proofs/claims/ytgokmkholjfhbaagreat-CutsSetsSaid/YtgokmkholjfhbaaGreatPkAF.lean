/-
  PkAF: BxU BxS, one behind the other (tools/pack.py).
-/
import Derived.Test.YtgokmkholjfhbaaGreatPkAE
set_option linter.unusedVariables false
set_option linter.unusedSimpArgs false
namespace Go.Proofs.YtgokmkholjfhbaaGreat.Xb
open Go.RowKit
def encR (p : Nat × Nat) : List Value := [.int .u32 p.1, .int .u32 p.2]
def flatR : List (Nat × Nat) → List Value
 | [] => []
 | p :: l => encR p ++ flatR l
theorem flatR_at : ∀ (l : List (Nat × Nat)) (i : Nat) (h : i < l.length) (j : Nat) (hj : j < 2), (flatR l)[i * 2 + j]? = (encR (l[i]'h))[j]?
 | p :: l, 0, _, j, hj => by
  rw [Nat.zero_mul, Nat.zero_add]
  exact List.getElem?_append_left (by simp [encR]; omega)
 | p :: l, i + 1, h, j, hj => by
  have := flatR_at l i (by simpa using h) j hj
  show (encR p ++ flatR l)[(i + 1) * 2 + j]? = _
  rw [List.getElem?_append_right (by simp [encR]; omega), show (i + 1) * 2 + j - (encR p).length = i * 2 + j by simp [encR]; omega]
  exact this
def RowR (w : World) (base : Nat) (v : Value) (l : List (Nat × Nat)) : Prop := w.ownsRow base 72 2 v l.length (flatR l)
theorem RowR.base {w : World} {b b' : Nat} {v : Value} {l : List (Nat × Nat)} (h : RowR w b v l) (hb : b' ≤ b) : RowR w b' v l := by
 refine ⟨h.1, ?_⟩
 rcases h.2 with h2 | ⟨g, cap, cur, hv, hg, r⟩
 ·exact .inl h2
 ·exact .inr ⟨g, cap, cur, hv, by omega, r⟩
theorem RowR.on {w w1 : World} {b : Nat} {v : Value} {l : List (Nat × Nat)} (h : RowR w b v l) (hb : Below w.heap.size w w1) : RowR w1 b v l := by
 refine ⟨h.1, ?_⟩
 rcases h.2 with h2 | ⟨g, cap, cur, hv, hg, hh, r⟩
 ·exact .inl h2
 ·exact .inr ⟨g, cap, cur, hv, hg, by rw [hb.block g (Array.getElem?_eq_some_iff.1 hh).1]; exact hh, r⟩
theorem RowR.alloc {w : World} {b : Nat} {v : Value} {l : List (Nat × Nat)} (h : RowR w b v l) (o : Obj) : RowR (w.alloc o) b v l := World.ownsRow.alloc h o
theorem RowR.drew {w : World} {b : Nat} {v : Value} {l : List (Nat × Nat)} (h : RowR w b v l) : RowR w.drew b v l := h
theorem RowR.nil (w : World) (b : Nat) : RowR w b (.slice none 0 0) [] := World.ownsRow_nil w b _ _
theorem RowR.one (w : World) (b : Nat) (p : Nat × Nat) (hb : b ≤ w.heap.size) : RowR (w.alloc (.cells #[.int .u32 p.1, .int .u32 p.2] 72)) b (.slice (some ⟨w.heap.size, 0, none⟩) 1 1) [p] :=
 World.ownsRow_lit w #[.int .u32 p.1, .int .u32 p.2] 1 hb (by simp [maxLen]) rfl
theorem RowR.lt {w : World} {b : Nat} {v : Value} {l : List (Nat × Nat)} (h : RowR w b v l) : ∀ k, v.ownBlock = some k → b ≤ k ∧ k < w.heap.size := World.ownsRow.lt h
theorem RowR.put {w : World} {b : Nat} {v : Value} {l : List (Nat × Nat)} (h : RowR w b v l) {g i : Nat} (hg : some g ≠ v.ownBlock) (u : Value) : RowR (w.setCell ⟨g, i, none⟩ u) b v l := by
 refine ⟨h.1, ?_⟩
 rcases h.2 with h2 | ⟨g', cap, cur, hv, hb, hh, r⟩
 ·exact .inl h2
 ·exact .inr ⟨g', cap, cur, hv, hb, by rw [Below.heap_setCell _ _ _ _ (by intro e; apply hg; rw [hv]; simp [Value.ownBlock, e])]; exact hh, r⟩
theorem RowR.form {w : World} {b : Nat} {v : Value} {l : List (Nat × Nat)} (h : RowR w b v l) :
  ∃ (ad : Option Addr) (cap : Nat), v = .slice ad l.length cap ∧ l.length ≤ cap ∧ (0 < l.length → ∃ g, ad = some ⟨g, 0, none⟩ ∧ b ≤ g ∧ g < w.heap.size ∧ ∀ k (hk : k < l.length) j, j < 2 → w.cell? ⟨g, k * 2 + j, none⟩ = (encR (l[k]'hk))[j]?) := by
 rcases h.2 with ⟨hv, hn⟩ | ⟨g, cap, cur, hv, hb, hg, hcap, r⟩
 ·exact ⟨none, 0, by rw [hv, hn], by omega, fun h0 => by omega⟩
 ·subst hv
  refine ⟨_, cap, rfl, hcap, fun _ => ⟨g, rfl, hb, (Array.getElem?_eq_some_iff.1 hg).1, fun k hk j hj => ?_⟩⟩
  have h' : w.ownsRow b 72 2 (.slice (some ⟨g, 0, none⟩) l.length cap) l.length (flatR l) := h
  rw [h'.cellAt (k * 2 + j) (by omega), flatR_at l k hk j hj]
theorem RowR.frozen {w : World} {b g cap n : Nat} {l : List (Nat × Nat)} (h : RowR w b (.slice (some ⟨g, 0, none⟩) n cap) l) (j : Nat) : w.frozen? ⟨g, j, none⟩ = false := by
 rcases h.2 with ⟨hv, _⟩ | ⟨g', cap', cur, hv, hb, hg, r⟩
 ·cases hv
 ·cases hv; simp [World.frozen?, hg]
def encS (p : Nat × Nat) : List Value := [.int .u16 p.1, .int .u16 p.2]
def flatS : List (Nat × Nat) → List Value
 | [] => []
 | p :: l => encS p ++ flatS l
theorem flatS_length (l : List (Nat × Nat)) : (flatS l).length = l.length * 2 := by
 induction l with
 | nil => rfl
 | cons p l ih => simp only [flatS, encS, List.length_append, List.length_cons, List.length_nil, ih]; omega
theorem flatS_append (l k : List (Nat × Nat)) : flatS (l ++ k) = flatS l ++ flatS k := by
 induction l with
 | nil => rfl
 | cons p l ih => simp only [flatS, List.cons_append, ih, List.append_assoc]
theorem flatS_one (l : List (Nat × Nat)) : ∀ u ∈ flatS l, u.oneCell' = true := by
 induction l with
 | nil => intro u hu; cases hu
 | cons p l ih =>
  intro u hu
  simp only [flatS, List.mem_append] at hu
  rcases hu with hu | hu
  ·simp only [encS, List.mem_cons, List.not_mem_nil, or_false] at hu
   rcases hu with rfl | rfl <;> rfl
  ·exact ih u hu
theorem flatS_at : ∀ (l : List (Nat × Nat)) (i : Nat) (h : i < l.length) (j : Nat) (hj : j < 2), (flatS l)[i * 2 + j]? = (encS (l[i]'h))[j]?
 | p :: l, 0, _, j, hj => by
  rw [Nat.zero_mul, Nat.zero_add]
  exact List.getElem?_append_left (by simp [encS]; omega)
 | p :: l, i + 1, h, j, hj => by
  have := flatS_at l i (by simpa using h) j hj
  show (encS p ++ flatS l)[(i + 1) * 2 + j]? = _
  rw [List.getElem?_append_right (by simp [encS]; omega), show (i + 1) * 2 + j - (encS p).length = i * 2 + j by simp [encS]; omega]
  exact this
theorem infoS : (Tryz.prog.info? 60).map (fun i => (i.zero, i.size, i.bytes)) = some (some (.agg #[.int .u16 0, .int .u16 0]), 2, 4) := by kernel_rfl
def RowS (w : World) (base : Nat) (v : Value) (l : List (Nat × Nat)) : Prop := w.ownsRow base 60 2 v l.length (flatS l)
theorem RowS.base {w : World} {b b' : Nat} {v : Value} {l : List (Nat × Nat)} (h : RowS w b v l) (hb : b' ≤ b) : RowS w b' v l := by
 refine ⟨h.1, ?_⟩
 rcases h.2 with h2 | ⟨g, cap, cur, hv, hg, r⟩
 ·exact .inl h2
 ·exact .inr ⟨g, cap, cur, hv, by omega, r⟩
theorem RowS.on {w w1 : World} {b : Nat} {v : Value} {l : List (Nat × Nat)} (h : RowS w b v l) (hb : Below w.heap.size w w1) : RowS w1 b v l := by
 refine ⟨h.1, ?_⟩
 rcases h.2 with h2 | ⟨g, cap, cur, hv, hg, hh, r⟩
 ·exact .inl h2
 ·exact .inr ⟨g, cap, cur, hv, hg, by rw [hb.block g (Array.getElem?_eq_some_iff.1 hh).1]; exact hh, r⟩
theorem RowS.alloc {w : World} {b : Nat} {v : Value} {l : List (Nat × Nat)} (h : RowS w b v l) (o : Obj) : RowS (w.alloc o) b v l := World.ownsRow.alloc h o
theorem RowS.drew {w : World} {b : Nat} {v : Value} {l : List (Nat × Nat)} (h : RowS w b v l) : RowS w.drew b v l := h
theorem RowS.nil (w : World) (b : Nat) : RowS w b (.slice none 0 0) [] := World.ownsRow_nil w b _ _
theorem RowS.one (w : World) (b : Nat) (p : Nat × Nat) (hb : b ≤ w.heap.size) : RowS (w.alloc (.cells #[.int .u16 p.1, .int .u16 p.2] 60)) b (.slice (some ⟨w.heap.size, 0, none⟩) 1 1) [p] :=
 World.ownsRow_lit w #[.int .u16 p.1, .int .u16 p.2] 1 hb (by simp [maxLen]) rfl
theorem RowS.lt {w : World} {b : Nat} {v : Value} {l : List (Nat × Nat)} (h : RowS w b v l) : ∀ k, v.ownBlock = some k → b ≤ k ∧ k < w.heap.size := World.ownsRow.lt h
theorem RowS.put {w : World} {b : Nat} {v : Value} {l : List (Nat × Nat)} (h : RowS w b v l) {g i : Nat} (hg : some g ≠ v.ownBlock) (u : Value) : RowS (w.setCell ⟨g, i, none⟩ u) b v l := by
 refine ⟨h.1, ?_⟩
 rcases h.2 with h2 | ⟨g', cap, cur, hv, hb, hh, r⟩
 ·exact .inl h2
 ·exact .inr ⟨g', cap, cur, hv, hb, by rw [Below.heap_setCell _ _ _ _ (by intro e; apply hg; rw [hv]; simp [Value.ownBlock, e])]; exact hh, r⟩
theorem run_appendS (w : World) (ty : TypeId) (b : Nat) (v : Value) (l : List (Nat × Nat)) (h : RowS w b v l) (c : Nat) (u : Value) (k : List (Nat × Nat)) (hk : RowS w c u k)
  (hb : b ≤ w.heap.size) (hsz : l.length + k.length ≤ 4294967296) :
  ∃ v' w', (Builtin.append_ #[218, 218] ty #[v, u]).run Tryz.prog w = .ok v' w' ∧ RowS w' b v' (l ++ k) ∧ w.grownBy w' v.ownBlock := by
 obtain ⟨i0, hi, hz0, hz1, hz2⟩ := info_parts infoS
 have hmx : l.length + k.length ≤ maxLen := by unfold maxLen; omega
 rcases hk.2 with ⟨rfl, hk0⟩ | ⟨g, cap, cur, rfl, hg, hh, hnc, hcm, hcs, htk⟩
 ·have hr := run_append_owned_none (P := Tryz.prog) (w := w) b 218 ty 60 i0 2 Tryz.underlying218 hi v l.length (flatS l) h
  refine ⟨v, w, hr, ?_, ⟨rfl, rfl, rfl, Nat.le_refl _, fun _ _ _ => rfl⟩⟩
  rw [List.eq_nil_of_length_eq_zero hk0, List.append_nil]
  exact h
 ·have hn := World.ownsRow.cells hk (g := g) rfl
  obtain ⟨v', w', hr, ho, hgr, _⟩ := run_append_own (P := Tryz.prog) w b 218 ty 60 i0 (.agg #[.int .u16 0, .int .u16 0]) 2 4 Tryz.underlying218 hi hz0 hz1 hz2 rfl (by decide) v l.length (flatS l) h ⟨g, 0, none⟩ k.length cap (flatS k) (flatS_length k) hn (flatS_one k) hmx (by omega) hb
  refine ⟨v', w', hr, ?_, hgr⟩
  unfold RowS
  rw [List.length_append, flatS_append]
  exact ho
theorem wp_appendS {o : Oper} {a : Act} {w : World} {K : Act → World → Prop} {Q : Exit → Act → World → Prop} (s x : Operand)
  (ho : o.op = .call { callee := .builtin .append, args := #[s, x], argTypes := #[218, 218] })
  (b : Nat) (v : Value) (l : List (Nat × Nat)) (hs : a.eval s = v) (h : RowS w b v l) (c : Nat) (u : Value) (k : List (Nat × Nat)) (hx : a.eval x = u) (hk : RowS w c u k)
  (hb : b ≤ w.heap.size) (hsz : l.length + k.length ≤ 4294967296)
  (hK : ∀ v' w', RowS w' b v' (l ++ k) → w.grownBy w' v.ownBlock → K (a.put o.dst v') w') : o.wp Tryz.prog a w K Q := by
 obtain ⟨v', w', hr, h2, h3⟩ := run_appendS w o.type b v l h c u k hk hb hsz
 unfold Oper.wp execOp
 simp only [ho, resolve, invoke, builtin, Sem.run_bind, Sem.run_pure, Result.andThen_ok, List.map_toArray, List.map_cons, List.map_nil, hs, hx, hr]
 exact hK v' w' h2 h3
theorem wpList_appendS {ops : Array Oper} {rest : List Oper} {o : Oper} {a : Act} {w : World} {Q : Exit → Act → World → Prop} (hgd : o.guard = none) (s x : Operand)
  (ho : o.op = .call { callee := .builtin .append, args := #[s, x], argTypes := #[218, 218] })
  (b : Nat) (v : Value) (l : List (Nat × Nat)) (hs : a.eval s = v) (h : RowS w b v l) (c : Nat) (u : Value) (k : List (Nat × Nat)) (hx : a.eval x = u) (hk : RowS w c u k)
  (hb : b ≤ w.heap.size) (hsz : l.length + k.length ≤ 4294967296)
  (hK : ∀ v' w', RowS w' b v' (l ++ k) → w.grownBy w' v.ownBlock → wpList Tryz.prog ops Q rest (a.put o.dst v') w') : wpList Tryz.prog ops Q (o :: rest) a w :=
 wpList_plain hgd fun _ hK' => wp_appendS s x ho b v l hs h c u k hx hk hb hsz fun v' w' h2 h3 => hK' _ _ (hK v' w' h2 h3)
theorem bel_grownS {B : Nat} {a w w' : World} {b : Nat} {v : Value} {l : List (Nat × Nat)} (h : Below B a w) (hr : RowS w b v l) (hg : w.grownBy w' v.ownBlock) (hB : B ≤ w.heap.size) (hb : B ≤ b) : Below B a w' :=
 h.grown hg hB fun k hk => Nat.le_trans hb (hr.lt k hk).1
theorem RowS.form {w : World} {b : Nat} {v : Value} {l : List (Nat × Nat)} (h : RowS w b v l) :
  ∃ (ad : Option Addr) (cap : Nat), v = .slice ad l.length cap ∧ l.length ≤ cap ∧ (0 < l.length → ∃ g, ad = some ⟨g, 0, none⟩ ∧ b ≤ g ∧ g < w.heap.size ∧ ∀ k (hk : k < l.length) j, j < 2 → w.cell? ⟨g, k * 2 + j, none⟩ = (encS (l[k]'hk))[j]?) := by
 rcases h.2 with ⟨hv, hn⟩ | ⟨g, cap, cur, hv, hb, hg, hcap, r⟩
 ·exact ⟨none, 0, by rw [hv, hn], by omega, fun h0 => by omega⟩
 ·subst hv
  refine ⟨_, cap, rfl, hcap, fun _ => ⟨g, rfl, hb, (Array.getElem?_eq_some_iff.1 hg).1, fun k hk j hj => ?_⟩⟩
  have h' : w.ownsRow b 60 2 (.slice (some ⟨g, 0, none⟩) l.length cap) l.length (flatS l) := h
  rw [h'.cellAt (k * 2 + j) (by omega), flatS_at l k hk j hj]
theorem RowS.frozen {w : World} {b g cap n : Nat} {l : List (Nat × Nat)} (h : RowS w b (.slice (some ⟨g, 0, none⟩) n cap) l) (j : Nat) : w.frozen? ⟨g, j, none⟩ = false := by
 rcases h.2 with ⟨hv, _⟩ | ⟨g', cap', cur, hv, hb, hg, r⟩
 ·cases hv
 ·cases hv; simp [World.frozen?, hg]
def encX (p : Bx) : List Value := [.int .u32 p.a.1, .int .u32 p.a.2, .int .u32 p.b.1, .int .u32 p.b.2, .int .u16 p.c.1, .int .u16 p.c.2, .int .u16 p.d.1, .int .u16 p.d.2, .int .u8 p.m.1, .int .u8 p.m.2]
def flatX : List (Bx) → List Value
 | [] => []
 | p :: l => encX p ++ flatX l
theorem flatX_length (l : List (Bx)) : (flatX l).length = l.length * 10 := by
 induction l with
 | nil => rfl
 | cons p l ih => simp only [flatX, encX, List.length_append, List.length_cons, List.length_nil, ih]; omega
theorem flatX_append (l k : List (Bx)) : flatX (l ++ k) = flatX l ++ flatX k := by
 induction l with
 | nil => rfl
 | cons p l ih => simp only [flatX, List.cons_append, ih, List.append_assoc]
theorem flatX_one (l : List (Bx)) : ∀ u ∈ flatX l, u.oneCell' = true := by
 induction l with
 | nil => intro u hu; cases hu
 | cons p l ih =>
  intro u hu
  simp only [flatX, List.mem_append] at hu
  rcases hu with hu | hu
  ·simp only [encX, List.mem_cons, List.not_mem_nil, or_false] at hu
   rcases hu with rfl | rfl | rfl | rfl | rfl | rfl | rfl | rfl | rfl | rfl <;> rfl
  ·exact ih u hu
theorem flatX_at : ∀ (l : List (Bx)) (i : Nat) (h : i < l.length) (j : Nat) (hj : j < 10), (flatX l)[i * 10 + j]? = (encX (l[i]'h))[j]?
 | p :: l, 0, _, j, hj => by
  rw [Nat.zero_mul, Nat.zero_add]
  exact List.getElem?_append_left (by simp [encX]; omega)
 | p :: l, i + 1, h, j, hj => by
  have := flatX_at l i (by simpa using h) j hj
  show (encX p ++ flatX l)[(i + 1) * 10 + j]? = _
  rw [List.getElem?_append_right (by simp [encX]; omega), show (i + 1) * 10 + j - (encX p).length = i * 10 + j by simp [encX]; omega]
  exact this
theorem infoX : (Tryz.prog.info? 74).map (fun i => (i.zero, i.size, i.bytes)) = some (some (.agg #[.int .u32 0, .int .u32 0, .int .u32 0, .int .u32 0, .int .u16 0, .int .u16 0, .int .u16 0, .int .u16 0, .int .u8 0, .int .u8 0]), 10, 28) := by kernel_rfl
def RowX (w : World) (base : Nat) (v : Value) (l : List (Bx)) : Prop := w.ownsRow base 74 10 v l.length (flatX l)
theorem RowX.base {w : World} {b b' : Nat} {v : Value} {l : List (Bx)} (h : RowX w b v l) (hb : b' ≤ b) : RowX w b' v l := by
 refine ⟨h.1, ?_⟩
 rcases h.2 with h2 | ⟨g, cap, cur, hv, hg, r⟩
 ·exact .inl h2
 ·exact .inr ⟨g, cap, cur, hv, by omega, r⟩
theorem RowX.on {w w1 : World} {b : Nat} {v : Value} {l : List (Bx)} (h : RowX w b v l) (hb : Below w.heap.size w w1) : RowX w1 b v l := by
 refine ⟨h.1, ?_⟩
 rcases h.2 with h2 | ⟨g, cap, cur, hv, hg, hh, r⟩
 ·exact .inl h2
 ·exact .inr ⟨g, cap, cur, hv, hg, by rw [hb.block g (Array.getElem?_eq_some_iff.1 hh).1]; exact hh, r⟩
theorem RowX.alloc {w : World} {b : Nat} {v : Value} {l : List (Bx)} (h : RowX w b v l) (o : Obj) : RowX (w.alloc o) b v l := World.ownsRow.alloc h o
theorem RowX.drew {w : World} {b : Nat} {v : Value} {l : List (Bx)} (h : RowX w b v l) : RowX w.drew b v l := h
theorem RowX.nil (w : World) (b : Nat) : RowX w b (.slice none 0 0) [] := World.ownsRow_nil w b _ _
theorem RowX.one (w : World) (b : Nat) (p : Bx) (hb : b ≤ w.heap.size) : RowX (w.alloc (.cells #[.int .u32 p.a.1, .int .u32 p.a.2, .int .u32 p.b.1, .int .u32 p.b.2, .int .u16 p.c.1, .int .u16 p.c.2, .int .u16 p.d.1, .int .u16 p.d.2, .int .u8 p.m.1, .int .u8 p.m.2] 74)) b (.slice (some ⟨w.heap.size, 0, none⟩) 1 1) [p] :=
 World.ownsRow_lit w #[.int .u32 p.a.1, .int .u32 p.a.2, .int .u32 p.b.1, .int .u32 p.b.2, .int .u16 p.c.1, .int .u16 p.c.2, .int .u16 p.d.1, .int .u16 p.d.2, .int .u8 p.m.1, .int .u8 p.m.2] 1 hb (by simp [maxLen]) rfl
theorem RowX.lt {w : World} {b : Nat} {v : Value} {l : List (Bx)} (h : RowX w b v l) : ∀ k, v.ownBlock = some k → b ≤ k ∧ k < w.heap.size := World.ownsRow.lt h
theorem RowX.put {w : World} {b : Nat} {v : Value} {l : List (Bx)} (h : RowX w b v l) {g i : Nat} (hg : some g ≠ v.ownBlock) (u : Value) : RowX (w.setCell ⟨g, i, none⟩ u) b v l := by
 refine ⟨h.1, ?_⟩
 rcases h.2 with h2 | ⟨g', cap, cur, hv, hb, hh, r⟩
 ·exact .inl h2
 ·exact .inr ⟨g', cap, cur, hv, hb, by rw [Below.heap_setCell _ _ _ _ (by intro e; apply hg; rw [hv]; simp [Value.ownBlock, e])]; exact hh, r⟩
theorem bel_grownX {B : Nat} {a w w' : World} {b : Nat} {v : Value} {l : List (Bx)} (h : Below B a w) (hr : RowX w b v l) (hg : w.grownBy w' v.ownBlock) (hB : B ≤ w.heap.size) (hb : B ≤ b) : Below B a w' :=
 h.grown hg hB fun k hk => Nat.le_trans hb (hr.lt k hk).1
theorem RowX.form {w : World} {b : Nat} {v : Value} {l : List (Bx)} (h : RowX w b v l) :
  ∃ (ad : Option Addr) (cap : Nat), v = .slice ad l.length cap ∧ l.length ≤ cap ∧ (0 < l.length → ∃ g, ad = some ⟨g, 0, none⟩ ∧ b ≤ g ∧ g < w.heap.size ∧ ∀ k (hk : k < l.length) j, j < 10 → w.cell? ⟨g, k * 10 + j, none⟩ = (encX (l[k]'hk))[j]?) := by
 rcases h.2 with ⟨hv, hn⟩ | ⟨g, cap, cur, hv, hb, hg, hcap, r⟩
 ·exact ⟨none, 0, by rw [hv, hn], by omega, fun h0 => by omega⟩
 ·subst hv
  refine ⟨_, cap, rfl, hcap, fun _ => ⟨g, rfl, hb, (Array.getElem?_eq_some_iff.1 hg).1, fun k hk j hj => ?_⟩⟩
  have h' : w.ownsRow b 74 10 (.slice (some ⟨g, 0, none⟩) l.length cap) l.length (flatX l) := h
  rw [h'.cellAt (k * 10 + j) (by omega), flatX_at l k hk j hj]
theorem RowX.frozen {w : World} {b g cap n : Nat} {l : List (Bx)} (h : RowX w b (.slice (some ⟨g, 0, none⟩) n cap) l) (j : Nat) : w.frozen? ⟨g, j, none⟩ = false := by
 rcases h.2 with ⟨hv, _⟩ | ⟨g', cap', cur, hv, hb, hg, r⟩
 ·cases hv
 ·cases hv; simp [World.frozen?, hg]
theorem RowS.one2 (w : World) (b : Nat) {x y : Int} (a n : Nat) {B : Nat} (hB : B = w.heap.size) (hx : x = (a : Int)) (hy : y = (n : Int)) (hb : b ≤ w.heap.size) : RowS (w.alloc (.cells #[.int .u16 x, .int .u16 y] 60)) b (.slice (some ⟨B, 0, none⟩) 1 1) [(a, n)] := by
 subst hx hy hB; exact RowS.one w b (a, n) hb
theorem RowR.one2 (w : World) (b : Nat) {x y : Int} (a n : Nat) {B : Nat} (hB : B = w.heap.size) (hx : x = (a : Int)) (hy : y = (n : Int)) (hb : b ≤ w.heap.size) : RowR (w.alloc (.cells #[.int .u32 x, .int .u32 y] 72)) b (.slice (some ⟨B, 0, none⟩) 1 1) [(a, n)] := by
 subst hx hy hB; exact RowR.one w b (a, n) hb
def chkS (a b : Nat) : Int := if b < a then 30 else 0
theorem checkS (a b : Nat) (w : World) :
  Calls Tryz.prog 75 #[.agg #[.int .u16 a, .int .u16 b]] w fun e w' => e = .returned (.int .i64 (chkS a b)) ∧ Below w.heap.size w w' := by
 by_cases h : b < a
 ·rw [show chkS a b = 30 from if_pos h]
  have h' : (b : Int) < (a : Int) := by omega
  clear h
  go_enter Tryz.func75, Tryz.ntmps75
  go_wp2
  go_ret
  exact ⟨rfl, belA⟩
 ·rw [show chkS a b = 0 from if_neg h]
  have h' : ¬ (b : Int) < (a : Int) := by omega
  clear h
  go_enter Tryz.func75, Tryz.ntmps75
  go_wp2
  go_ret
  exact ⟨rfl, belA⟩
theorem meetS_yes (a b c d : Nat) (w : World) (h : max a c ≤ min b d) :
  Calls Tryz.prog 91 #[.agg #[.int .u16 a, .int .u16 b], .agg #[.int .u16 c, .int .u16 d]] w fun e w' => e = .returned (.tuple #[.agg #[.int .u16 (max a c : Nat), .int .u16 (min b d : Nat)], .bool true]) ∧ Below w.heap.size w w' := by
 by_cases h1 : a < c
 ·rw [show max a c = c by omega] at h ⊢
  by_cases h2 : d < b
  ·rw [show min b d = d by omega] at h ⊢
   have h3 : ¬ (d < c) := by omega
   clear h
   go_enter Tryz.func91, Tryz.ntmps91
   go_wp2
   exact bodyPost_ret (v := .tuple #[.agg #[.int .u16 c, .int .u16 d], .bool true]) (by simp [results, Tryz.results91, go_sem]) rfl ⟨rfl, belA⟩
  ·rw [show min b d = b by omega] at h ⊢
   have h3 : ¬ (b < c) := by omega
   clear h
   go_enter Tryz.func91, Tryz.ntmps91
   go_wp2
   exact bodyPost_ret (v := .tuple #[.agg #[.int .u16 c, .int .u16 b], .bool true]) (by simp [results, Tryz.results91, go_sem]) rfl ⟨rfl, belA⟩
 ·rw [show max a c = a by omega] at h ⊢
  by_cases h2 : d < b
  ·rw [show min b d = d by omega] at h ⊢
   have h3 : ¬ (d < a) := by omega
   clear h
   go_enter Tryz.func91, Tryz.ntmps91
   go_wp2
   exact bodyPost_ret (v := .tuple #[.agg #[.int .u16 a, .int .u16 d], .bool true]) (by simp [results, Tryz.results91, go_sem]) rfl ⟨rfl, belA⟩
  ·rw [show min b d = b by omega] at h ⊢
   have h3 : ¬ (b < a) := by omega
   clear h
   go_enter Tryz.func91, Tryz.ntmps91
   go_wp2
   exact bodyPost_ret (v := .tuple #[.agg #[.int .u16 a, .int .u16 b], .bool true]) (by simp [results, Tryz.results91, go_sem]) rfl ⟨rfl, belA⟩
theorem meetS_no (a b c d : Nat) (w : World) (h : ¬ max a c ≤ min b d) :
  Calls Tryz.prog 91 #[.agg #[.int .u16 a, .int .u16 b], .agg #[.int .u16 c, .int .u16 d]] w fun e w' => e = .returned (.tuple #[.agg #[.int .u16 0, .int .u16 0], .bool false]) ∧ Below w.heap.size w w' := by
 by_cases h1 : a < c
 ·rw [show max a c = c by omega] at h
  by_cases h2 : d < b
  ·rw [show min b d = d by omega] at h
   have h3 : d < c := by omega
   clear h
   go_enter Tryz.func91, Tryz.ntmps91
   go_wp2
   exact bodyPost_ret (v := .tuple #[.agg #[.int .u16 0, .int .u16 0], .bool false]) (by simp [results, Tryz.results91, go_sem]) rfl ⟨rfl, belA⟩
  ·rw [show min b d = b by omega] at h
   have h3 : b < c := by omega
   clear h
   go_enter Tryz.func91, Tryz.ntmps91
   go_wp2
   exact bodyPost_ret (v := .tuple #[.agg #[.int .u16 0, .int .u16 0], .bool false]) (by simp [results, Tryz.results91, go_sem]) rfl ⟨rfl, belA⟩
 ·rw [show max a c = a by omega] at h
  by_cases h2 : d < b
  ·rw [show min b d = d by omega] at h
   have h3 : d < a := by omega
   clear h
   go_enter Tryz.func91, Tryz.ntmps91
   go_wp2
   exact bodyPost_ret (v := .tuple #[.agg #[.int .u16 0, .int .u16 0], .bool false]) (by simp [results, Tryz.results91, go_sem]) rfl ⟨rfl, belA⟩
  ·rw [show min b d = b by omega] at h
   have h3 : b < a := by omega
   clear h
   go_enter Tryz.func91, Tryz.ntmps91
   go_wp2
   exact bodyPost_ret (v := .tuple #[.agg #[.int .u16 0, .int .u16 0], .bool false]) (by simp [results, Tryz.results91, go_sem]) rfl ⟨rfl, belA⟩
end Go.Proofs.YtgokmkholjfhbaaGreat.Xb

