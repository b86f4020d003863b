/-
  Rows of calls. Written by tools/mkHhU.py, after the rows of rules.
-/
import Derived.Test.YthfjdoenofkghaaHhPl
import Derived.Test.YthfjdoenofkghaaHdPlain
import Derived.Test.YthfjdoenofkghaaBxW
import Derived.Test.YthfjdoenofkghaaBxY
import Derived.Test.YthfjdoenofkghaaProg
import Derived.Maps.AppendAt
import Derived.OwnWalk
import Derived.Deep.AppendLies
import Derived.Laws.CopyOwn
import Derived.Deep.DeepCutAuto
import Derived.RegionTactic
import Derived.BigRegion
import Derived.Test.YthfjdoenofkghaaHhU
namespace Go.Proofs.Ythfjdoenofkghaa
open Go.RowKit
set_option linter.unusedVariables false
set_option linter.unusedSimpArgs false

/-- A call of a script. -/
structure Oy where
  i : Int
  k : Hd
  v : Int
def encO (p : Oy) : List Value := [.int .i64 p.i, .int .u32 (p.k.s : Int), .int .u32 (p.k.d : Int), .int .u16 (p.k.p : Int), .int .u16 (p.k.q : Int), .int .u8 (p.k.r : Int), .int .i64 p.v]
def flatO : List (Oy) → List Value
  | [] => []
  | p :: l => encO p ++ flatO l
theorem flatO_length (l : List (Oy)) : (flatO l).length = l.length * 7 := by
  induction l with
  | nil => rfl
  | cons p l ih => simp only [flatO, encO, List.length_append, List.length_cons, List.length_nil, ih]; omega
theorem flatO_append (l k : List (Oy)) : flatO (l ++ k) = flatO l ++ flatO k := by
  induction l with
  | nil => rfl
  | cons p l ih => simp only [flatO, List.cons_append, ih, List.append_assoc]
theorem flatO_one (l : List (Oy)) : ∀ u ∈ flatO l, u.oneCell' = true := by
  induction l with
  | nil => intro u hu; cases hu
  | cons p l ih =>
    intro u hu
    simp only [flatO, List.mem_append] at hu
    rcases hu with hu | hu
    · simp only [encO, List.mem_cons, List.not_mem_nil, or_false] at hu
      rcases hu with rfl | rfl | rfl | rfl | rfl | rfl | rfl <;> rfl
    · exact ih u hu
theorem flatO_at : ∀ (l : List (Oy)) (i : Nat) (h : i < l.length) (j : Nat) (hj : j < 7), (flatO l)[i * 7 + j]? = (encO (l[i]'h))[j]?
  | p :: l, 0, _, j, hj => by
    rw [Nat.zero_mul, Nat.zero_add]
    exact List.getElem?_append_left (by simp [encO]; omega)
  | p :: l, i + 1, h, j, hj => by
    have := flatO_at l i (by simpa using h) j hj
    show (encO p ++ flatO l)[(i + 1) * 7 + j]? = _
    rw [List.getElem?_append_right (by simp [encO]; omega), show (i + 1) * 7 + j - (encO p).length = i * 7 + j by simp [encO]; omega]
    exact this
theorem infoO : (Try.prog.info? 38).map (fun i => (i.zero, i.size, i.bytes)) = some (some (.agg #[.int .i64 0, .int .u32 0, .int .u32 0, .int .u16 0, .int .u16 0, .int .u8 0, .int .i64 0]), 7, 32) := by kernel_rfl
/-- The row v of w holds the list. -/
def RowO (w : World) (base : Nat) (v : Value) (l : List (Oy)) : Prop := w.ownsRow base 38 7 v l.length (flatO l)
theorem RowO.base {w : World} {b b' : Nat} {v : Value} {l : List (Oy)} (h : RowO w b v l) (hb : b' ≤ b) : RowO w b' v l := by
  refine ⟨h.1, ?_⟩
  rcases h.2 with h2 | ⟨g, cap, cur, hv, hg, r⟩
  · exact .inl h2
  · exact .inr ⟨g, cap, cur, hv, by omega, r⟩
theorem RowO.on {w w1 : World} {b : Nat} {v : Value} {l : List (Oy)} (h : RowO w b v l) (hb : Below w.heap.size w w1) : RowO w1 b v l := by
  refine ⟨h.1, ?_⟩
  rcases h.2 with h2 | ⟨g, cap, cur, hv, hg, hh, r⟩
  · exact .inl h2
  · exact .inr ⟨g, cap, cur, hv, hg, by rw [hb.block g (Array.getElem?_eq_some_iff.1 hh).1]; exact hh, r⟩
theorem RowO.alloc {w : World} {b : Nat} {v : Value} {l : List (Oy)} (h : RowO w b v l) (o : Obj) : RowO (w.alloc o) b v l := World.ownsRow.alloc h o
theorem RowO.drew {w : World} {b : Nat} {v : Value} {l : List (Oy)} (h : RowO w b v l) : RowO w.drew b v l := h
theorem RowO.nil (w : World) (b : Nat) : RowO w b (.slice none 0 0) [] := World.ownsRow_nil w b _ _
theorem RowO.one (w : World) (b : Nat) (p : Oy) (hb : b ≤ w.heap.size) : RowO (w.alloc (.cells #[.int .i64 p.i, .int .u32 (p.k.s : Int), .int .u32 (p.k.d : Int), .int .u16 (p.k.p : Int), .int .u16 (p.k.q : Int), .int .u8 (p.k.r : Int), .int .i64 p.v] 38)) b (.slice (some ⟨w.heap.size, 0, none⟩) 1 1) [p] :=
  World.ownsRow_lit w #[.int .i64 p.i, .int .u32 (p.k.s : Int), .int .u32 (p.k.d : Int), .int .u16 (p.k.p : Int), .int .u16 (p.k.q : Int), .int .u8 (p.k.r : Int), .int .i64 p.v] 1 hb (by simp [maxLen]) rfl
theorem RowO.lt {w : World} {b : Nat} {v : Value} {l : List (Oy)} (h : RowO w b v l) : ∀ k, v.ownBlock = some k → b ≤ k ∧ k < w.heap.size := World.ownsRow.lt h
theorem RowO.put {w : World} {b : Nat} {v : Value} {l : List (Oy)} (h : RowO w b v l) {g i : Nat} (hg : some g ≠ v.ownBlock) (u : Value) : RowO (w.setCell ⟨g, i, none⟩ u) b v l := by
  refine ⟨h.1, ?_⟩
  rcases h.2 with h2 | ⟨g', cap, cur, hv, hb, hh, r⟩
  · exact .inl h2
  · exact .inr ⟨g', cap, cur, hv, hb, by rw [Below.heap_setCell _ _ _ _ (by intro e; apply hg; rw [hv]; simp [Value.ownBlock, e])]; exact hh, r⟩
/-- One owned row behind another. -/
theorem run_appendO (w : World) (ty : TypeId) (b : Nat) (v : Value) (l : List (Oy)) (h : RowO w b v l) (c : Nat) (u : Value) (k : List (Oy)) (hk : RowO w c u k)
    (hb : b ≤ w.heap.size) (hsz : l.length + k.length ≤ 4294967296) :
    ∃ v' w', (Builtin.append_ #[31, 31] ty #[v, u]).run Try.prog w = .ok v' w' ∧ RowO w' b v' (l ++ k) ∧ w.grownBy w' v.ownBlock := by
  obtain ⟨i0, hi, hz0, hz1, hz2⟩ := info_parts infoO
  have hmx : l.length + k.length ≤ maxLen := by unfold maxLen; omega
  rcases hk.2 with ⟨rfl, hk0⟩ | ⟨g, cap, cur, rfl, hg, hh, hnc, hcm, hcs, htk⟩
  · have hr := run_append_owned_none (P := Try.prog) (w := w) b 31 ty 38 i0 7 Try.underlying31 hi v l.length (flatO l) h
    refine ⟨v, w, hr, ?_, ⟨rfl, rfl, rfl, Nat.le_refl _, fun _ _ _ => rfl⟩⟩
    rw [List.eq_nil_of_length_eq_zero hk0, List.append_nil]
    exact h
  · have hn := World.ownsRow.cells hk (g := g) rfl
    obtain ⟨v', w', hr, ho, hgr, _⟩ := run_append_own (P := Try.prog) w b 31 ty 38 i0 (.agg #[.int .i64 0, .int .u32 0, .int .u32 0, .int .u16 0, .int .u16 0, .int .u8 0, .int .i64 0]) 7 32 Try.underlying31 hi hz0 hz1 hz2 rfl (by decide) v l.length (flatO l) h ⟨g, 0, none⟩ k.length cap (flatO k) (flatO_length k) hn (flatO_one k) hmx (by omega) hb
    refine ⟨v', w', hr, ?_, hgr⟩
    unfold RowO
    rw [List.length_append, flatO_append]
    exact ho
theorem wp_appendO {o : Oper} {a : Act} {w : World} {K : Act → World → Prop} {Q : Exit → Act → World → Prop} (s x : Operand)
    (ho : o.op = .call { callee := .builtin .append, args := #[s, x], argTypes := #[31, 31] })
    (b : Nat) (v : Value) (l : List (Oy)) (hs : a.eval s = v) (h : RowO w b v l) (c : Nat) (u : Value) (k : List (Oy)) (hx : a.eval x = u) (hk : RowO w c u k)
    (hb : b ≤ w.heap.size) (hsz : l.length + k.length ≤ 4294967296)
    (hK : ∀ v' w', RowO w' b v' (l ++ k) → w.grownBy w' v.ownBlock → K (a.put o.dst v') w') : o.wp Try.prog a w K Q := by
  obtain ⟨v', w', hr, h2, h3⟩ := run_appendO w o.type b v l h c u k hk hb hsz
  unfold Oper.wp execOp
  simp only [ho, resolve, invoke, builtin, Sem.run_bind, Sem.run_pure, Result.andThen_ok, List.map_toArray, List.map_cons, List.map_nil, hs, hx, hr]
  exact hK v' w' h2 h3
theorem wpList_appendO {ops : Array Oper} {rest : List Oper} {o : Oper} {a : Act} {w : World} {Q : Exit → Act → World → Prop} (hgd : o.guard = none) (s x : Operand)
    (ho : o.op = .call { callee := .builtin .append, args := #[s, x], argTypes := #[31, 31] })
    (b : Nat) (v : Value) (l : List (Oy)) (hs : a.eval s = v) (h : RowO w b v l) (c : Nat) (u : Value) (k : List (Oy)) (hx : a.eval x = u) (hk : RowO w c u k)
    (hb : b ≤ w.heap.size) (hsz : l.length + k.length ≤ 4294967296)
    (hK : ∀ v' w', RowO w' b v' (l ++ k) → w.grownBy w' v.ownBlock → wpList Try.prog ops Q rest (a.put o.dst v') w') : wpList Try.prog ops Q (o :: rest) a w :=
  wpList_plain hgd fun _ hK' => wp_appendO s x ho b v l hs h c u k hx hk hb hsz fun v' w' h2 h3 => hK' _ _ (hK v' w' h2 h3)
theorem bel_grownO {B : Nat} {a w w' : World} {b : Nat} {v : Value} {l : List (Oy)} (h : Below B a w) (hr : RowO w b v l) (hg : w.grownBy w' v.ownBlock) (hB : B ≤ w.heap.size) (hb : B ≤ b) : Below B a w' :=
  h.grown hg hB fun k hk => Nat.le_trans hb (hr.lt k hk).1
/-- What a row looks like. -/
theorem RowO.form {w : World} {b : Nat} {v : Value} {l : List (Oy)} (h : RowO w b v l) :
    ∃ (ad : Option Addr) (cap : Nat), v = .slice ad l.length cap ∧ l.length ≤ cap ∧ (0 < l.length → ∃ g, ad = some ⟨g, 0, none⟩ ∧ b ≤ g ∧ g < w.heap.size ∧ ∀ k (hk : k < l.length) j, j < 7 → w.cell? ⟨g, k * 7 + j, none⟩ = (encO (l[k]'hk))[j]?) := by
  rcases h.2 with ⟨hv, hn⟩ | ⟨g, cap, cur, hv, hb, hg, hcap, r⟩
  · exact ⟨none, 0, by rw [hv, hn], by omega, fun h0 => by omega⟩
  · subst hv
    refine ⟨_, cap, rfl, hcap, fun _ => ⟨g, rfl, hb, (Array.getElem?_eq_some_iff.1 hg).1, fun k hk j hj => ?_⟩⟩
    have h' : w.ownsRow b 38 7 (.slice (some ⟨g, 0, none⟩) l.length cap) l.length (flatO l) := h
    rw [h'.cellAt (k * 7 + j) (by omega), flatO_at l k hk j hj]
theorem RowO.frozen {w : World} {b g cap n : Nat} {l : List (Oy)} (h : RowO w b (.slice (some ⟨g, 0, none⟩) n cap) l) (j : Nat) : w.frozen? ⟨g, j, none⟩ = false := by
  rcases h.2 with ⟨hv, _⟩ | ⟨g', cap', cur, hv, hb, hg, r⟩
  · cases hv
  · cases hv; simp [World.frozen?, hg]

/-- The slice v of w reads as the list of rules. -/
def SrcO (w : World) (v : Value) (l : List Oy) : Prop :=
  ∃ (ad : Option Addr) (cap : Nat), v = .slice ad l.length cap ∧ (l.length ≤ cap ∧ (ad = none → cap = 0)) ∧ (0 < l.length → ∃ g off, ad = some ⟨g, off, none⟩ ∧ ∀ k (hk : k < l.length) j, j < 7 → w.cell? ⟨g, off + (k * 7 + j), none⟩ = (encO (l[k]'hk))[j]?)
theorem encO_some (R : Oy) {j : Nat} (h : j < 7) : ∃ v, (encO R)[j]? = some v := ⟨(encO R)[j]'(by simp [encO]; omega), List.getElem?_eq_getElem _⟩
theorem SrcO.keep {w w1 : World} {v : Value} {l : List Oy} (h : SrcO w v l) (hb : Below w.heap.size w w1) : SrcO w1 v l := by
  obtain ⟨ad, cap, rfl, hc, h2⟩ := h
  refine ⟨ad, cap, rfl, hc, fun h0 => ?_⟩
  obtain ⟨g, off, rfl, h3⟩ := h2 h0
  exact ⟨g, off, rfl, fun k hk j hj => by
    have := h3 k hk j hj
    obtain ⟨u, hu⟩ := encO_some (l[k]'hk) hj
    rw [hb.cell (World.block_lt_of_cell? w _ (this.trans hu))]; exact this⟩
/-- A source whose block stays. -/
theorem SrcO.stay {w w1 : World} {v : Value} {l : List Oy} (h : SrcO w v l) (hb : ∀ k, v.ownBlock = some k → k < w.heap.size → w1.heap[k]? = w.heap[k]?) : SrcO w1 v l := by
  obtain ⟨ad, cap, rfl, hc, h2⟩ := h
  refine ⟨ad, cap, rfl, hc, fun h0 => ?_⟩
  obtain ⟨g, off, rfl, h3⟩ := h2 h0
  exact ⟨g, off, rfl, fun k hk j hj => by
    have := h3 k hk j hj
    obtain ⟨u, hu⟩ := encO_some (l[k]'hk) hj
    have hlt := World.block_lt_of_cell? w _ (this.trans hu)
    rw [World.cell?_of_block (w := w) (a := ⟨g, off + (k * 7 + j), none⟩) (hb g rfl hlt)]; exact this⟩
theorem RowO.src {w : World} {b : Nat} {v : Value} {l : List Oy} (h : RowO w b v l) : SrcO w v l := by
  obtain ⟨ad, cap, hv, hc, h2⟩ := h.form
  refine ⟨ad, cap, hv, ⟨hc, fun e => ?_⟩, fun h0 => ?_⟩
  · subst e
    rcases h.2 with ⟨hv', _⟩ | ⟨g, cap', cur, hv', _⟩
    · rw [hv] at hv'; injection hv'
    · rw [hv] at hv'; cases hv'
  obtain ⟨g, e, _, _, h3⟩ := h2 h0
  exact ⟨g, 0, e, fun k hk j hj => by rw [Nat.zero_add]; exact h3 k hk j hj⟩
theorem SrcO.flat {w : World} {g off n cap : Nat} {l : List Oy} (h : SrcO w (.slice (some ⟨g, off, none⟩) n cap) l) : ∀ j u, (flatO l)[j]? = some u → w.cell? ((⟨g, off, none⟩ : Addr).add j) = some u := by
  intro j u hu
  obtain ⟨ad, c, e, hc, h2⟩ := h
  cases e
  have hj : j < (flatO l).length := (List.getElem?_eq_some_iff.1 hu).1
  rw [flatO_length] at hj
  obtain ⟨g', off', e', h3⟩ := h2 (by omega)
  cases e'
  have hk : j / 7 < l.length := by omega
  have hm : j % 7 < 7 := Nat.mod_lt _ (by decide)
  have e1 : j / 7 * 7 + j % 7 = j := by omega
  have h4 := flatO_at l (j / 7) hk (j % 7) hm
  rw [e1] at h4
  have h5 := h3 (j / 7) hk (j % 7) hm
  rw [e1] at h5
  rw [Addr.add_lit, h5, ← h4]
  exact hu
theorem flatO_take (l : List Oy) (p : Nat) : (flatO l).take (p * 7) = flatO (l.take p) := by
  by_cases h : p ≤ l.length
  · have e := flatO_append (l.take p) (l.drop p)
    rw [List.take_append_drop] at e
    rw [e]
    have hl : (flatO (l.take p)).length = p * 7 := by rw [flatO_length, List.length_take]; congr 1; omega
    rw [List.take_append_of_le_length (by omega), List.take_of_length_le (by omega)]
  · rw [List.take_of_length_le (by rw [flatO_length]; omega), List.take_of_length_le (by omega)]
theorem flatO_drop (l : List Oy) (p : Nat) : (flatO l).drop (p * 7) = flatO (l.drop p) := by
  by_cases h : p ≤ l.length
  · have e := flatO_append (l.take p) (l.drop p)
    rw [List.take_append_drop] at e
    rw [e]
    have hl : (flatO (l.take p)).length = p * 7 := by rw [flatO_length, List.length_take]; congr 1; omega
    rw [← hl, List.drop_left]
  · rw [List.drop_eq_nil_of_le (by rw [flatO_length]; omega), List.drop_eq_nil_of_le (by omega)]; rfl
/-- A row with something in it. -/
theorem RowO.some {w : World} {b : Nat} {v : Value} {l : List Oy} (h : RowO w b v l) (h0 : 0 < l.length) : ∃ g cap, v = .slice (.some ⟨g, 0, none⟩) l.length cap ∧ l.length ≤ cap ∧ b ≤ g ∧ g < w.heap.size := by
  obtain ⟨ad, cap, hv, hc, h2⟩ := h.form
  obtain ⟨g, rfl, hb, hg, _⟩ := h2 h0
  exact ⟨g, cap, hv, hc, hb, hg⟩
/-- Rules laid over a row from a place on. -/
theorem RowO.over {w w' : World} {b g n cap : Nat} {l : List Oy} (h : RowO w b (.slice (.some ⟨g, 0, none⟩) n cap) l) (p : Nat) (k : List Oy) (hf : p + k.length ≤ n)
    (hw : ∀ cur, w.heap[g]? = .some (.cells cur 38 (0, 0)) → w'.heap[g]? = .some (.cells (cur.toList.take (p * 7) ++ flatO k ++ cur.toList.drop (p * 7 + (flatO k).length)).toArray 38 (0, 0))) :
    RowO w' b (.slice (.some ⟨g, 0, none⟩) n cap) (l.take p ++ k ++ l.drop (p + k.length)) := by
  have hn : l.length = n := by
    rcases h.2 with ⟨hv, _⟩ | ⟨g', cap', cur, hv, _⟩
    · cases hv
    · cases hv; rfl
  subst hn
  have hlen : (l.take p ++ k ++ l.drop (p + k.length)).length = l.length := by simp; omega
  rcases h.2 with ⟨hv, _⟩ | ⟨g', cap', cur, hv, hb, hg, hc, hm, hs, ht⟩
  · cases hv
  · cases hv
    refine ⟨by rw [hlen, flatO_length, hlen], .inr ⟨g, cap, _, by rw [hlen], hb, hw cur hg, by rw [hlen]; exact hc, hm, ?_, ?_⟩⟩
    · rw [flatO_length]
      simp only [List.size_toArray, List.length_append, List.length_take, List.length_drop, Array.length_toList, flatO_length]
      omega
    · rw [hlen]
      have e1 : cur.toList.take (p * 7) = flatO (l.take p) := by
        rw [← flatO_take, ← ht, List.take_take]; congr 1; omega
      have e2 : (cur.toList.drop (p * 7 + (flatO k).length)).take (l.length * 7 - (p * 7 + (flatO k).length)) = flatO (l.drop (p + k.length)) := by
        rw [← flatO_drop, ← ht, List.drop_take, flatO_length]
        rw [show p * 7 + k.length * 7 = (p + k.length) * 7 by omega]
      have l1 : (flatO (l.take p)).length = p * 7 := by rw [flatO_length, List.length_take]; omega
      rw [e1, flatO_append, flatO_append, ← e2]
      have l2 := flatO_length k
      rw [List.take_append, List.take_of_length_le (by rw [List.length_append, l1, l2]; omega)]
      congr 2
      rw [List.length_append, l1]
/-- 'append' of a source to an owned row; where the new row lies. -/
theorem run_appendSO (w : World) (ty : TypeId) (b : Nat) (v : Value) (l : List Oy) (h : RowO w b v l) (u : Value) (k : List Oy) (hk : SrcO w u k) (hb : b ≤ w.heap.size) (hsz : l.length + k.length ≤ 4294967296) :
    ∃ v' w', (Builtin.append_ #[31, 31] ty #[v, u]).run Try.prog w = .ok v' w' ∧ RowO w' b v' (l ++ k) ∧ w.grownBy w' v.ownBlock ∧ (v'.ownBlock = v.ownBlock ∨ v'.ownBlock = .some w.heap.size) := by
  obtain ⟨i0, hi, hz0, hz1, hz2⟩ := info_parts infoO
  have hmx : l.length + k.length ≤ maxLen := by unfold maxLen; omega
  have hk' := hk
  obtain ⟨ad, c, rfl, hc, h2⟩ := hk
  cases ad with
  | none =>
    have h0 : k.length = 0 := by have := hc.1; have := hc.2 rfl; omega
    have hc0 : c = 0 := hc.2 rfl
    have hr := run_append_owned_none (P := Try.prog) (w := w) b 31 ty 38 i0 7 Try.underlying31 hi v l.length (flatO l) h
    rw [h0, hc0]
    refine ⟨v, w, hr, ?_, ⟨rfl, rfl, rfl, Nat.le_refl _, fun _ _ _ => rfl⟩, .inl rfl⟩
    rw [List.eq_nil_of_length_eq_zero h0, List.append_nil]
    exact h
  | some a =>
    have hfl : ∀ j x, (flatO k)[j]? = .some x → w.cell? (a.add j) = .some x := by
      by_cases h0 : 0 < k.length
      · obtain ⟨g, off, e, _⟩ := h2 h0
        cases e
        exact hk'.flat
      · rw [List.eq_nil_of_length_eq_zero (by omega : k.length = 0)]
        intro j x hx
        simp [flatO] at hx
    obtain ⟨v', w', hr, ho, hgr, _, hat⟩ := run_append_own_at (P := Try.prog) w b 31 ty 38 i0 (.agg #[.int .i64 0, .int .u32 0, .int .u32 0, .int .u16 0, .int .u16 0, .int .u8 0, .int .i64 0]) 7 32 Try.underlying31 hi hz0 hz1 hz2 rfl (by decide) v l.length (flatO l) h a k.length c (flatO k) (flatO_length k) hfl (flatO_one k) hmx (by omega) hb
    refine ⟨v', w', hr, ?_, hgr, hat⟩
    unfold RowO
    rw [List.length_append, flatO_append]
    exact ho
theorem wpList_appendSO {ops : Array Oper} {rest : List Oper} {o : Oper} {a : Act} {w : World} {Q : Exit → Act → World → Prop} (hgd : o.guard = none) (s x : Operand)
    (ho : o.op = .call { callee := .builtin .append, args := #[s, x], argTypes := #[31, 31] })
    (b : Nat) (v : Value) (l : List Oy) (hs : a.eval s = v) (h : RowO w b v l) (u : Value) (k : List Oy) (hx : a.eval x = u) (hk : SrcO w u k)
    (hb : b ≤ w.heap.size) (hsz : l.length + k.length ≤ 4294967296)
    (hK : ∀ v' w', RowO w' b v' (l ++ k) → w.grownBy w' v.ownBlock → (v'.ownBlock = v.ownBlock ∨ v'.ownBlock = .some w.heap.size) → wpList Try.prog ops Q rest (a.put o.dst v') w') : wpList Try.prog ops Q (o :: rest) a w := by
  refine wpList_plain hgd fun K hK' => ?_
  obtain ⟨v', w', hr, h2, h3, h4⟩ := run_appendSO w o.type b v l h u k hk hb hsz
  unfold Oper.wp execOp
  simp only [ho, resolve, invoke, builtin, Sem.run_bind, Sem.run_pure, Result.andThen_ok, List.map_toArray, List.map_cons, List.map_nil, hs, hx, hr]
  exact hK' _ _ (hK v' w' h2 h3 h4)
/-- A rule stored into an owned row. -/
theorem wp_storeO {o : Oper} {a : Act} {w : World} {K : Act → World → Prop} {Q : Exit → Act → World → Prop} (x y : Operand) (ho : o.op = .store 38 x y)
    (b g n cap : Nat) (l : List Oy) (hr : RowO w b (.slice (some ⟨g, 0, none⟩) n cap) l) (p : Nat) (hp : p < n) (R : Oy) (hx : a.eval x = .pointer (some ⟨g, p * 7, none⟩)) (hy : a.eval y = .agg #[.int .i64 R.i, .int .u32 (R.k.s : Int), .int .u32 (R.k.d : Int), .int .u16 (R.k.p : Int), .int .u16 (R.k.q : Int), .int .u8 (R.k.r : Int), .int .i64 R.v])
    (hK : ∀ w', RowO w' b (.slice (some ⟨g, 0, none⟩) n cap) (l.take p ++ [R] ++ l.drop (p + [R].length)) → w.grownBy w' (some g) → K (a.put o.dst undef) w') : o.wp Try.prog a w K Q := by
  obtain ⟨cur, hg, hcs⟩ : ∃ cur, w.heap[g]? = some (.cells cur 38 (0, 0)) ∧ cur.size = cap * 7 ∧ n ≤ cap := by
    rcases hr.2 with ⟨hv, _⟩ | ⟨g', cap', cur, hv, hb, hg, hc, hm, hs, ht⟩
    · cases hv
    · cases hv; exact ⟨cur, hg, hs, by omega⟩
  refine wp_store_blk 38 x y ho g (p * 7) (encO R).toArray (cur.toList.take (p * 7) ++ encO R ++ cur.toList.drop (p * 7 + (encO R).toArray.size)).toArray hx hy 38 cur hg (by simp [encO]; omega) (by simp) (by kernel_rfl) (by simp [encO, Value.oneCell']) ?_
  intro w' h1 h2
  have hf : flatO [R] = encO R := by simp [flatO]
  refine hK w' (hr.over p [R] (by simp; omega) (fun cur' hg' => ?_)) ⟨h2.os, h2.tape, h2.output, Nat.le_of_eq h2.size.symm, fun k _ hk => h2.block k (fun e => hk (by rw [e]))⟩
  rw [hg] at hg'
  cases hg'
  rw [hf]
  simpa using h1

end Go.Proofs.Ythfjdoenofkghaa
