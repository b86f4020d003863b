/-
  Rows of calls; entries as calls. Written by tools/mkTrTp.py.
-/
import Derived.Test.YtfbkjghipahipaaTrTn
import Derived.Test.YtfbkjghipahipaaTrFo
namespace Go.Proofs.Ytfbkjghipahipaa
open Go.RowKit Go.ChangeShapes Go.WideShapes Go.ChangeAt Go.Joins
set_option linter.unusedVariables false
set_option linter.unusedSimpArgs false

def encQ (p : Opx) : List Value := [.int .i64 p.k, .bool p.s, .int .u32 (p.a : Int), .int .i64 p.n, .int .i64 p.v]
def flatQ : List (Opx) → List Value
  | [] => []
  | p :: l => encQ p ++ flatQ l
theorem flatQ_length (l : List (Opx)) : (flatQ l).length = l.length * 5 := by
  induction l with
  | nil => rfl
  | cons p l ih => simp only [flatQ, encQ, List.length_append, List.length_cons, List.length_nil, ih]; omega
theorem flatQ_append (l k : List (Opx)) : flatQ (l ++ k) = flatQ l ++ flatQ k := by
  induction l with
  | nil => rfl
  | cons p l ih => simp only [flatQ, List.cons_append, ih, List.append_assoc]
theorem flatQ_one (l : List (Opx)) : ∀ u ∈ flatQ l, u.oneCell' = true := by
  induction l with
  | nil => intro u hu; cases hu
  | cons p l ih =>
    intro u hu
    simp only [flatQ, List.mem_append] at hu
    rcases hu with hu | hu
    · simp only [encQ, List.mem_cons, List.not_mem_nil, or_false] at hu
      rcases hu with rfl | rfl | rfl | rfl | rfl <;> rfl
    · exact ih u hu
theorem flatQ_at : ∀ (l : List (Opx)) (i : Nat) (h : i < l.length) (j : Nat) (hj : j < 5), (flatQ l)[i * 5 + j]? = (encQ (l[i]'h))[j]?
  | p :: l, 0, _, j, hj => by
    rw [Nat.zero_mul, Nat.zero_add]
    exact List.getElem?_append_left (by simp [encQ]; omega)
  | p :: l, i + 1, h, j, hj => by
    have := flatQ_at l i (by simpa using h) j hj
    show (encQ p ++ flatQ l)[(i + 1) * 5 + j]? = _
    rw [List.getElem?_append_right (by simp [encQ]; omega), show (i + 1) * 5 + j - (encQ p).length = i * 5 + j by simp [encQ]; omega]
    exact this
theorem infoQ : (Try.prog.info? 35).map (fun i => (i.zero, i.size, i.bytes)) = some (some (.agg #[.int .i64 0, .bool false, .int .u32 0, .int .i64 0, .int .i64 0]), 5, 32) := by kernel_rfl
/-- The row v of w holds the list. -/
def RowQ (w : World) (base : Nat) (v : Value) (l : List (Opx)) : Prop := w.ownsRow base 35 5 v l.length (flatQ l)
theorem RowQ.base {w : World} {b b' : Nat} {v : Value} {l : List (Opx)} (h : RowQ w b v l) (hb : b' ≤ b) : RowQ w b' v l := by
  refine ⟨h.1, ?_⟩
  rcases h.2 with h2 | ⟨g, cap, cur, hv, hg, r⟩
  · exact .inl h2
  · exact .inr ⟨g, cap, cur, hv, by omega, r⟩
theorem RowQ.on {w w1 : World} {b : Nat} {v : Value} {l : List (Opx)} (h : RowQ w b v l) (hb : Below w.heap.size w w1) : RowQ w1 b v l := by
  refine ⟨h.1, ?_⟩
  rcases h.2 with h2 | ⟨g, cap, cur, hv, hg, hh, r⟩
  · exact .inl h2
  · exact .inr ⟨g, cap, cur, hv, hg, by rw [hb.block g (Array.getElem?_eq_some_iff.1 hh).1]; exact hh, r⟩
theorem RowQ.alloc {w : World} {b : Nat} {v : Value} {l : List (Opx)} (h : RowQ w b v l) (o : Obj) : RowQ (w.alloc o) b v l := World.ownsRow.alloc h o
theorem RowQ.drew {w : World} {b : Nat} {v : Value} {l : List (Opx)} (h : RowQ w b v l) : RowQ w.drew b v l := h
theorem RowQ.nil (w : World) (b : Nat) : RowQ w b (.slice none 0 0) [] := World.ownsRow_nil w b _ _
theorem RowQ.one (w : World) (b : Nat) (p : Opx) (hb : b ≤ w.heap.size) : RowQ (w.alloc (.cells #[.int .i64 p.k, .bool p.s, .int .u32 (p.a : Int), .int .i64 p.n, .int .i64 p.v] 35)) b (.slice (some ⟨w.heap.size, 0, none⟩) 1 1) [p] :=
  World.ownsRow_lit w #[.int .i64 p.k, .bool p.s, .int .u32 (p.a : Int), .int .i64 p.n, .int .i64 p.v] 1 hb (by simp [maxLen]) rfl
theorem RowQ.lt {w : World} {b : Nat} {v : Value} {l : List (Opx)} (h : RowQ w b v l) : ∀ k, v.ownBlock = some k → b ≤ k ∧ k < w.heap.size := World.ownsRow.lt h
theorem RowQ.put {w : World} {b : Nat} {v : Value} {l : List (Opx)} (h : RowQ w b v l) {g i : Nat} (hg : some g ≠ v.ownBlock) (u : Value) : RowQ (w.setCell ⟨g, i, none⟩ u) b v l := by
  refine ⟨h.1, ?_⟩
  rcases h.2 with h2 | ⟨g', cap, cur, hv, hb, hh, r⟩
  · exact .inl h2
  · exact .inr ⟨g', cap, cur, hv, hb, by rw [Below.heap_setCell _ _ _ _ (by intro e; apply hg; rw [hv]; simp [Value.ownBlock, e])]; exact hh, r⟩
/-- One owned row behind another. -/
theorem run_appendQ (w : World) (ty : TypeId) (b : Nat) (v : Value) (l : List (Opx)) (h : RowQ w b v l) (c : Nat) (u : Value) (k : List (Opx)) (hk : RowQ w c u k)
    (hb : b ≤ w.heap.size) (hsz : l.length + k.length ≤ 4294967296) :
    ∃ v' w', (Builtin.append_ #[22, 22] ty #[v, u]).run Try.prog w = .ok v' w' ∧ RowQ w' b v' (l ++ k) ∧ w.grownBy w' v.ownBlock := by
  obtain ⟨i0, hi, hz0, hz1, hz2⟩ := info_parts infoQ
  have hmx : l.length + k.length ≤ maxLen := by unfold maxLen; omega
  rcases hk.2 with ⟨rfl, hk0⟩ | ⟨g, cap, cur, rfl, hg, hh, hnc, hcm, hcs, htk⟩
  · have hr := run_append_owned_none (P := Try.prog) (w := w) b 22 ty 35 i0 5 Try.underlying22 hi v l.length (flatQ l) h
    refine ⟨v, w, hr, ?_, ⟨rfl, rfl, rfl, Nat.le_refl _, fun _ _ _ => rfl⟩⟩
    rw [List.eq_nil_of_length_eq_zero hk0, List.append_nil]
    exact h
  · have hn := World.ownsRow.cells hk (g := g) rfl
    obtain ⟨v', w', hr, ho, hgr, _⟩ := run_append_own (P := Try.prog) w b 22 ty 35 i0 (.agg #[.int .i64 0, .bool false, .int .u32 0, .int .i64 0, .int .i64 0]) 5 32 Try.underlying22 hi hz0 hz1 hz2 rfl (by decide) v l.length (flatQ l) h ⟨g, 0, none⟩ k.length cap (flatQ k) (flatQ_length k) hn (flatQ_one k) hmx (by omega) hb
    refine ⟨v', w', hr, ?_, hgr⟩
    unfold RowQ
    rw [List.length_append, flatQ_append]
    exact ho
theorem wp_appendQ {o : Oper} {a : Act} {w : World} {K : Act → World → Prop} {Q : Exit → Act → World → Prop} (s x : Operand)
    (ho : o.op = .call { callee := .builtin .append, args := #[s, x], argTypes := #[22, 22] })
    (b : Nat) (v : Value) (l : List (Opx)) (hs : a.eval s = v) (h : RowQ w b v l) (c : Nat) (u : Value) (k : List (Opx)) (hx : a.eval x = u) (hk : RowQ w c u k)
    (hb : b ≤ w.heap.size) (hsz : l.length + k.length ≤ 4294967296)
    (hK : ∀ v' w', RowQ w' b v' (l ++ k) → w.grownBy w' v.ownBlock → K (a.put o.dst v') w') : o.wp Try.prog a w K Q := by
  obtain ⟨v', w', hr, h2, h3⟩ := run_appendQ w o.type b v l h c u k hk hb hsz
  unfold Oper.wp execOp
  simp only [ho, resolve, invoke, builtin, Sem.run_bind, Sem.run_pure, Result.andThen_ok, List.map_toArray, List.map_cons, List.map_nil, hs, hx, hr]
  exact hK v' w' h2 h3
theorem wpList_appendQ {ops : Array Oper} {rest : List Oper} {o : Oper} {a : Act} {w : World} {Q : Exit → Act → World → Prop} (hgd : o.guard = none) (s x : Operand)
    (ho : o.op = .call { callee := .builtin .append, args := #[s, x], argTypes := #[22, 22] })
    (b : Nat) (v : Value) (l : List (Opx)) (hs : a.eval s = v) (h : RowQ w b v l) (c : Nat) (u : Value) (k : List (Opx)) (hx : a.eval x = u) (hk : RowQ w c u k)
    (hb : b ≤ w.heap.size) (hsz : l.length + k.length ≤ 4294967296)
    (hK : ∀ v' w', RowQ w' b v' (l ++ k) → w.grownBy w' v.ownBlock → wpList Try.prog ops Q rest (a.put o.dst v') w') : wpList Try.prog ops Q (o :: rest) a w :=
  wpList_plain hgd fun _ hK' => wp_appendQ s x ho b v l hs h c u k hx hk hb hsz fun v' w' h2 h3 => hK' _ _ (hK v' w' h2 h3)
theorem bel_grownQ {B : Nat} {a w w' : World} {b : Nat} {v : Value} {l : List (Opx)} (h : Below B a w) (hr : RowQ w b v l) (hg : w.grownBy w' v.ownBlock) (hB : B ≤ w.heap.size) (hb : B ≤ b) : Below B a w' :=
  h.grown hg hB fun k hk => Nat.le_trans hb (hr.lt k hk).1
/-- What a row looks like. -/
theorem RowQ.form {w : World} {b : Nat} {v : Value} {l : List (Opx)} (h : RowQ w b v l) :
    ∃ (ad : Option Addr) (cap : Nat), v = .slice ad l.length cap ∧ l.length ≤ cap ∧ (0 < l.length → ∃ g, ad = some ⟨g, 0, none⟩ ∧ b ≤ g ∧ g < w.heap.size ∧ ∀ k (hk : k < l.length) j, j < 5 → w.cell? ⟨g, k * 5 + j, none⟩ = (encQ (l[k]'hk))[j]?) := by
  rcases h.2 with ⟨hv, hn⟩ | ⟨g, cap, cur, hv, hb, hg, hcap, r⟩
  · exact ⟨none, 0, by rw [hv, hn], by omega, fun h0 => by omega⟩
  · subst hv
    refine ⟨_, cap, rfl, hcap, fun _ => ⟨g, rfl, hb, (Array.getElem?_eq_some_iff.1 hg).1, fun k hk j hj => ?_⟩⟩
    have h' : w.ownsRow b 35 5 (.slice (some ⟨g, 0, none⟩) l.length cap) l.length (flatQ l) := h
    rw [h'.cellAt (k * 5 + j) (by omega), flatQ_at l k hk j hj]
theorem RowQ.frozen {w : World} {b g cap n : Nat} {l : List (Opx)} (h : RowQ w b (.slice (some ⟨g, 0, none⟩) n cap) l) (j : Nat) : w.frozen? ⟨g, j, none⟩ = false := by
  rcases h.2 with ⟨hv, _⟩ | ⟨g', cap', cur, hv, hb, hg, r⟩
  · cases hv
  · cases hv; simp [World.frozen?, hg]

/-- The slice v of w reads as the list of rules. -/
def SrcQ (w : World) (v : Value) (l : List Opx) : Prop :=
  ∃ (ad : Option Addr) (cap : Nat), v = .slice ad l.length cap ∧ (l.length ≤ cap ∧ (ad = none → cap = 0)) ∧ (0 < l.length → ∃ g off, ad = some ⟨g, off, none⟩ ∧ ∀ k (hk : k < l.length) j, j < 5 → w.cell? ⟨g, off + (k * 5 + j), none⟩ = (encQ (l[k]'hk))[j]?)
theorem encQ_some (R : Opx) {j : Nat} (h : j < 5) : ∃ v, (encQ R)[j]? = some v := ⟨(encQ R)[j]'(by simp [encQ]; omega), List.getElem?_eq_getElem _⟩
theorem SrcQ.keep {w w1 : World} {v : Value} {l : List Opx} (h : SrcQ w v l) (hb : Below w.heap.size w w1) : SrcQ w1 v l := by
  obtain ⟨ad, cap, rfl, hc, h2⟩ := h
  refine ⟨ad, cap, rfl, hc, fun h0 => ?_⟩
  obtain ⟨g, off, rfl, h3⟩ := h2 h0
  exact ⟨g, off, rfl, fun k hk j hj => by
    have := h3 k hk j hj
    obtain ⟨u, hu⟩ := encQ_some (l[k]'hk) hj
    rw [hb.cell (World.block_lt_of_cell? w _ (this.trans hu))]; exact this⟩
/-- A source whose block stays. -/
theorem SrcQ.stay {w w1 : World} {v : Value} {l : List Opx} (h : SrcQ w v l) (hb : ∀ k, v.ownBlock = some k → k < w.heap.size → w1.heap[k]? = w.heap[k]?) : SrcQ w1 v l := by
  obtain ⟨ad, cap, rfl, hc, h2⟩ := h
  refine ⟨ad, cap, rfl, hc, fun h0 => ?_⟩
  obtain ⟨g, off, rfl, h3⟩ := h2 h0
  exact ⟨g, off, rfl, fun k hk j hj => by
    have := h3 k hk j hj
    obtain ⟨u, hu⟩ := encQ_some (l[k]'hk) hj
    have hlt := World.block_lt_of_cell? w _ (this.trans hu)
    rw [World.cell?_of_block (w := w) (a := ⟨g, off + (k * 5 + j), none⟩) (hb g rfl hlt)]; exact this⟩
theorem RowQ.src {w : World} {b : Nat} {v : Value} {l : List Opx} (h : RowQ w b v l) : SrcQ w v l := by
  obtain ⟨ad, cap, hv, hc, h2⟩ := h.form
  refine ⟨ad, cap, hv, ⟨hc, fun e => ?_⟩, fun h0 => ?_⟩
  · subst e
    rcases h.2 with ⟨hv', _⟩ | ⟨g, cap', cur, hv', _⟩
    · rw [hv] at hv'; injection hv'
    · rw [hv] at hv'; cases hv'
  obtain ⟨g, e, _, _, h3⟩ := h2 h0
  exact ⟨g, 0, e, fun k hk j hj => by rw [Nat.zero_add]; exact h3 k hk j hj⟩
theorem SrcQ.flat {w : World} {g off n cap : Nat} {l : List Opx} (h : SrcQ w (.slice (some ⟨g, off, none⟩) n cap) l) : ∀ j u, (flatQ l)[j]? = some u → w.cell? ((⟨g, off, none⟩ : Addr).add j) = some u := by
  intro j u hu
  obtain ⟨ad, c, e, hc, h2⟩ := h
  cases e
  have hj : j < (flatQ l).length := (List.getElem?_eq_some_iff.1 hu).1
  rw [flatQ_length] at hj
  obtain ⟨g', off', e', h3⟩ := h2 (by omega)
  cases e'
  have hk : j / 5 < l.length := by omega
  have hm : j % 5 < 5 := Nat.mod_lt _ (by decide)
  have e1 : j / 5 * 5 + j % 5 = j := by omega
  have h4 := flatQ_at l (j / 5) hk (j % 5) hm
  rw [e1] at h4
  have h5 := h3 (j / 5) hk (j % 5) hm
  rw [e1] at h5
  rw [Addr.add_lit, h5, ← h4]
  exact hu
theorem flatQ_take (l : List Opx) (p : Nat) : (flatQ l).take (p * 5) = flatQ (l.take p) := by
  by_cases h : p ≤ l.length
  · have e := flatQ_append (l.take p) (l.drop p)
    rw [List.take_append_drop] at e
    rw [e]
    have hl : (flatQ (l.take p)).length = p * 5 := by rw [flatQ_length, List.length_take]; congr 1; omega
    rw [List.take_append_of_le_length (by omega), List.take_of_length_le (by omega)]
  · rw [List.take_of_length_le (by rw [flatQ_length]; omega), List.take_of_length_le (by omega)]
theorem flatQ_drop (l : List Opx) (p : Nat) : (flatQ l).drop (p * 5) = flatQ (l.drop p) := by
  by_cases h : p ≤ l.length
  · have e := flatQ_append (l.take p) (l.drop p)
    rw [List.take_append_drop] at e
    rw [e]
    have hl : (flatQ (l.take p)).length = p * 5 := by rw [flatQ_length, List.length_take]; congr 1; omega
    rw [← hl, List.drop_left]
  · rw [List.drop_eq_nil_of_le (by rw [flatQ_length]; omega), List.drop_eq_nil_of_le (by omega)]; rfl
/-- A row with something in it. -/
theorem RowQ.some {w : World} {b : Nat} {v : Value} {l : List Opx} (h : RowQ w b v l) (h0 : 0 < l.length) : ∃ g cap, v = .slice (.some ⟨g, 0, none⟩) l.length cap ∧ l.length ≤ cap ∧ b ≤ g ∧ g < w.heap.size := by
  obtain ⟨ad, cap, hv, hc, h2⟩ := h.form
  obtain ⟨g, rfl, hb, hg, _⟩ := h2 h0
  exact ⟨g, cap, hv, hc, hb, hg⟩
/-- Rules laid over a row from a place on. -/
theorem RowQ.over {w w' : World} {b g n cap : Nat} {l : List Opx} (h : RowQ w b (.slice (.some ⟨g, 0, none⟩) n cap) l) (p : Nat) (k : List Opx) (hf : p + k.length ≤ n)
    (hw : ∀ cur, w.heap[g]? = .some (.cells cur 35 (0, 0)) → w'.heap[g]? = .some (.cells (cur.toList.take (p * 5) ++ flatQ k ++ cur.toList.drop (p * 5 + (flatQ k).length)).toArray 35 (0, 0))) :
    RowQ w' b (.slice (.some ⟨g, 0, none⟩) n cap) (l.take p ++ k ++ l.drop (p + k.length)) := by
  have hn : l.length = n := by
    rcases h.2 with ⟨hv, _⟩ | ⟨g', cap', cur, hv, _⟩
    · cases hv
    · cases hv; rfl
  subst hn
  have hlen : (l.take p ++ k ++ l.drop (p + k.length)).length = l.length := by simp; omega
  rcases h.2 with ⟨hv, _⟩ | ⟨g', cap', cur, hv, hb, hg, hc, hm, hs, ht⟩
  · cases hv
  · cases hv
    refine ⟨by rw [hlen, flatQ_length, hlen], .inr ⟨g, cap, _, by rw [hlen], hb, hw cur hg, by rw [hlen]; exact hc, hm, ?_, ?_⟩⟩
    · rw [flatQ_length]
      simp only [List.size_toArray, List.length_append, List.length_take, List.length_drop, Array.length_toList, flatQ_length]
      omega
    · rw [hlen]
      have e1 : cur.toList.take (p * 5) = flatQ (l.take p) := by
        rw [← flatQ_take, ← ht, List.take_take]; congr 1; omega
      have e2 : (cur.toList.drop (p * 5 + (flatQ k).length)).take (l.length * 5 - (p * 5 + (flatQ k).length)) = flatQ (l.drop (p + k.length)) := by
        rw [← flatQ_drop, ← ht, List.drop_take, flatQ_length]
        rw [show p * 5 + k.length * 5 = (p + k.length) * 5 by omega]
      have l1 : (flatQ (l.take p)).length = p * 5 := by rw [flatQ_length, List.length_take]; omega
      rw [e1, flatQ_append, flatQ_append, ← e2]
      have l2 := flatQ_length k
      rw [List.take_append, List.take_of_length_le (by rw [List.length_append, l1, l2]; omega)]
      congr 2
      rw [List.length_append, l1]
/-- 'append' of a source to an owned row; where the new row lies. -/
theorem run_appendSQ (w : World) (ty : TypeId) (b : Nat) (v : Value) (l : List Opx) (h : RowQ w b v l) (u : Value) (k : List Opx) (hk : SrcQ w u k) (hb : b ≤ w.heap.size) (hsz : l.length + k.length ≤ 4294967296) :
    ∃ v' w', (Builtin.append_ #[22, 22] ty #[v, u]).run Try.prog w = .ok v' w' ∧ RowQ w' b v' (l ++ k) ∧ w.grownBy w' v.ownBlock ∧ (v'.ownBlock = v.ownBlock ∨ v'.ownBlock = .some w.heap.size) := by
  obtain ⟨i0, hi, hz0, hz1, hz2⟩ := info_parts infoQ
  have hmx : l.length + k.length ≤ maxLen := by unfold maxLen; omega
  have hk' := hk
  obtain ⟨ad, c, rfl, hc, h2⟩ := hk
  cases ad with
  | none =>
    have h0 : k.length = 0 := by have := hc.1; have := hc.2 rfl; omega
    have hc0 : c = 0 := hc.2 rfl
    have hr := run_append_owned_none (P := Try.prog) (w := w) b 22 ty 35 i0 5 Try.underlying22 hi v l.length (flatQ l) h
    rw [h0, hc0]
    refine ⟨v, w, hr, ?_, ⟨rfl, rfl, rfl, Nat.le_refl _, fun _ _ _ => rfl⟩, .inl rfl⟩
    rw [List.eq_nil_of_length_eq_zero h0, List.append_nil]
    exact h
  | some a =>
    have hfl : ∀ j x, (flatQ k)[j]? = .some x → w.cell? (a.add j) = .some x := by
      by_cases h0 : 0 < k.length
      · obtain ⟨g, off, e, _⟩ := h2 h0
        cases e
        exact hk'.flat
      · rw [List.eq_nil_of_length_eq_zero (by omega : k.length = 0)]
        intro j x hx
        simp [flatQ] at hx
    obtain ⟨v', w', hr, ho, hgr, _, hat⟩ := run_append_own_at (P := Try.prog) w b 22 ty 35 i0 (.agg #[.int .i64 0, .bool false, .int .u32 0, .int .i64 0, .int .i64 0]) 5 32 Try.underlying22 hi hz0 hz1 hz2 rfl (by decide) v l.length (flatQ l) h a k.length c (flatQ k) (flatQ_length k) hfl (flatQ_one k) hmx (by omega) hb
    refine ⟨v', w', hr, ?_, hgr, hat⟩
    unfold RowQ
    rw [List.length_append, flatQ_append]
    exact ho
theorem wpList_appendSQ {ops : Array Oper} {rest : List Oper} {o : Oper} {a : Act} {w : World} {Q : Exit → Act → World → Prop} (hgd : o.guard = none) (s x : Operand)
    (ho : o.op = .call { callee := .builtin .append, args := #[s, x], argTypes := #[22, 22] })
    (b : Nat) (v : Value) (l : List Opx) (hs : a.eval s = v) (h : RowQ w b v l) (u : Value) (k : List Opx) (hx : a.eval x = u) (hk : SrcQ w u k)
    (hb : b ≤ w.heap.size) (hsz : l.length + k.length ≤ 4294967296)
    (hK : ∀ v' w', RowQ w' b v' (l ++ k) → w.grownBy w' v.ownBlock → (v'.ownBlock = v.ownBlock ∨ v'.ownBlock = .some w.heap.size) → wpList Try.prog ops Q rest (a.put o.dst v') w') : wpList Try.prog ops Q (o :: rest) a w := by
  refine wpList_plain hgd fun K hK' => ?_
  obtain ⟨v', w', hr, h2, h3, h4⟩ := run_appendSQ w o.type b v l h u k hk hb hsz
  unfold Oper.wp execOp
  simp only [ho, resolve, invoke, builtin, Sem.run_bind, Sem.run_pure, Result.andThen_ok, List.map_toArray, List.map_cons, List.map_nil, hs, hx, hr]
  exact hK' _ _ (hK v' w' h2 h3 h4)
/-- A rule stored into an owned row. -/
theorem wp_storeQ {o : Oper} {a : Act} {w : World} {K : Act → World → Prop} {Q : Exit → Act → World → Prop} (x y : Operand) (ho : o.op = .store 35 x y)
    (b g n cap : Nat) (l : List Opx) (hr : RowQ w b (.slice (some ⟨g, 0, none⟩) n cap) l) (p : Nat) (hp : p < n) (R : Opx) (hx : a.eval x = .pointer (some ⟨g, p * 5, none⟩)) (hy : a.eval y = .agg #[.int .i64 R.k, .bool R.s, .int .u32 (R.a : Int), .int .i64 R.n, .int .i64 R.v])
    (hK : ∀ w', RowQ w' b (.slice (some ⟨g, 0, none⟩) n cap) (l.take p ++ [R] ++ l.drop (p + [R].length)) → w.grownBy w' (some g) → K (a.put o.dst undef) w') : o.wp Try.prog a w K Q := by
  obtain ⟨cur, hg, hcs⟩ : ∃ cur, w.heap[g]? = some (.cells cur 35 (0, 0)) ∧ cur.size = cap * 5 ∧ n ≤ cap := by
    rcases hr.2 with ⟨hv, _⟩ | ⟨g', cap', cur, hv, hb, hg, hc, hm, hs, ht⟩
    · cases hv
    · cases hv; exact ⟨cur, hg, hs, by omega⟩
  refine wp_store_blk 35 x y ho g (p * 5) (encQ R).toArray (cur.toList.take (p * 5) ++ encQ R ++ cur.toList.drop (p * 5 + (encQ R).toArray.size)).toArray hx hy 35 cur hg (by simp [encQ]; omega) (by simp) (by kernel_rfl) (by simp [encQ, Value.oneCell']) ?_
  intro w' h1 h2
  have hf : flatQ [R] = encQ R := by simp [flatQ]
  refine hK w' (hr.over p [R] (by simp; omega) (fun cur' hg' => ?_)) ⟨h2.os, h2.tape, h2.output, Nat.le_of_eq h2.size.symm, fun k _ hk => h2.block k (fun e => hk (by rw [e]))⟩
  rw [hg] at hg'
  cases hg'
  rw [hf]
  simpa using h1

theorem srcQ_O {w : World} {v : Value} {l : List Opx} (h : SrcQ w v l) : SrcO w v l := h
theorem RowQ.kept {w w' : World} {b : Nat} {v : Value} {l : List Opx} {row : Option Nat} (h : RowQ w b v l) (hg : w.grownBy w' row) (hne : v.ownBlock = none ∨ v.ownBlock ≠ row) : RowQ w' b v l := World.ownsRow.kept h hg hne
/-- Entries, read as puts. -/
def encV (o : Opx) : List Value := [.int .u32 (o.a : Int), .int .i64 o.n, .int .i64 o.v]
def BdE (o : Opx) : Prop := o.k = 0 ∧ o.s = false ∧ BdO o
def SrcV (w : World) (v : Value) (l : List Opx) : Prop :=
  ∃ (ad : Option Addr) (cap : Nat), v = .slice ad l.length cap ∧ (l.length ≤ cap ∧ (ad = none → cap = 0)) ∧ (0 < l.length → ∃ g off, ad = some ⟨g, off, none⟩ ∧ ∀ k (hk : k < l.length) j, j < 3 → w.cell? ⟨g, off + (k * 3 + j), none⟩ = (encV (l[k]'hk))[j]?)
theorem SrcV.cells {w : World} {ad : Option Addr} {n cap : Nat} {l : List Opx} (h : SrcV w (.slice ad n cap) l) {k : Nat} (hk : k < l.length) {W : World} (hb : Below w.heap.size w W) : ∃ g off, ad = some ⟨g, off, none⟩ ∧ W.cell? ⟨g, off + k * 3, none⟩ = some (.int .u32 (l[k].a : Int)) ∧ W.cell? ⟨g, off + k * 3 + 1, none⟩ = some (.int .i64 l[k].n) ∧ W.cell? ⟨g, off + k * 3 + 2, none⟩ = some (.int .i64 l[k].v) := by
  obtain ⟨ad', cap', e, hc, h2⟩ := h
  cases e
  obtain ⟨g, off, e, h3⟩ := h2 (by omega)
  exact ⟨g, off, e, cell_on1 hb (h3 k hk 0 (by decide)), cell_on1 hb (h3 k hk 1 (by decide)), cell_on1 hb (h3 k hk 2 (by decide))⟩
theorem cells_En : Try.prog.cellsOf 45 = 3 := by kernel_rfl
theorem list3 {A : Type} {l : List A} (h : l.length = 3) : ∃ a b c, l = [a, b, c] := by
  match l, h with
  | [a, b, c], _ => exact ⟨a, b, c, rfl⟩
section
variable {H : Type} {enc : TypeId × Value → H} {w : World} {base : Nat} {spare : Nat → Bool} {held : Bool}
theorem ev_of_cells {fuel : Nat} {cs : List Value} {y : DataW H × List MemPlace} (hf : DataW.trod enc Try.prog w base spare held fuel 45 cs = some y) : ∃ o : Opx, cs = encV o ∧ BdE o := by
  obtain ⟨xs, n, _, hx, hl, hlen, hfl⟩ := DataW.trod_struct Try.underlying45 hf
  obtain ⟨c0, c1, c2, rfl⟩ := list3 (hl.trans cells_En)
  obtain ⟨y0, y1, y2, rfl⟩ := list3 (l := xs) (by simpa using hlen)
  have g0 := hfl 0 _ rfl
  have g1 := hfl 1 _ rfl
  have g2 := hfl 2 _ rfl
  simp [cells_int, cells_u32] at g0 g1 g2
  obtain ⟨p0, r0, t0, u0⟩ := DataW.trod_int Try.underlying33 g0
  obtain ⟨p1, r1, t1, u1⟩ := DataW.trod_int Try.underlying3 g1
  obtain ⟨p2, r2, t2, u2⟩ := DataW.trod_int Try.underlying3 g2
  simp at r0 r1 r2
  subst r0 r1 r2
  obtain ⟨k0, rfl, b0⟩ := wf_u32 u0
  exact ⟨⟨0, false, k0, p1, p2⟩, rfl, rfl, rfl, ⟨by show (-9223372036854775808 : Int) ≤ 0; decide, by show (0 : Int) ≤ 9223372036854775807; decide⟩, b0, wf_sgn u1, wf_sgn u2⟩
theorem ens_of_cells {fuel : Nat} {v : Value} {y : DataW H × List MemPlace} (hfu : DataW.trod enc Try.prog w base spare held fuel 30 [v] = some y) : ∃ l : List Opx, SrcV w v l ∧ ∀ R ∈ l, BdE R := by
  rcases Go.Deep.open_slice Try.underlying30 hfu with ⟨hc, hx⟩ | ⟨a, len, cap, m, k, D, Pl, hc, _, hl, hm, hmm, hx, hall⟩
  · simp at hc
    subst hc
    exact ⟨[], ⟨none, 0, rfl, ⟨Nat.le_refl _, fun _ => rfl⟩, fun h0 => absurd h0 (Nat.lt_irrefl _)⟩, fun s hs => by cases hs⟩
  · simp at hc
    subst hc
    have hlm : len ≤ m := by rw [hmm]; split <;> omega
    have val : ∀ i, ∃ X : Opx, i < len → (∀ j, j < 3 → w.cell? ((a.add (i * 3)).add j) = (encV X)[j]?) ∧ BdE X := by
      intro i
      by_cases hi : i < len
      · obtain ⟨cs', h1, h2⟩ := hall i (by omega)
        rw [cells_En] at h1
        obtain ⟨X, rfl, hb⟩ := ev_of_cells h2
        exact ⟨X, fun _ => ⟨fun j hj => cells_at h1 j hj, hb⟩⟩
      · exact ⟨opZ, fun h => absurd h hi⟩
    obtain ⟨f, hf⟩ : ∃ f : Nat → Opx, f = fun i => Classical.choose (val i) := ⟨_, rfl⟩
    have hF : ∀ i, i < len → (∀ j, j < 3 → w.cell? ((a.add (i * 3)).add j) = (encV (f i))[j]?) ∧ BdE (f i) := by rw [hf]; exact fun i => Classical.choose_spec (val i)
    refine ⟨(List.range len).map f, ⟨some a, cap, by simp, ⟨by simpa using hl, fun e => by cases e⟩, fun h0 => ?_⟩, fun R hR => ?_⟩
    · simp at h0
      have h00 := (hF 0 h0).1 0 (by decide)
      have hsp : a.spot = none := no_spot (h00.trans rfl)
      obtain ⟨b, off, spot⟩ := a
      simp only at hsp
      subst hsp
      refine ⟨b, off, rfl, fun i hi j hj => ?_⟩
      simp at hi
      have := (hF i hi).1 j hj
      rw [Addr.add_lit, Addr.add_lit, Nat.add_assoc] at this
      rw [this]
      simp
    · obtain ⟨i, hi, rfl⟩ := List.mem_map.1 hR
      exact (hF i (List.mem_range.1 hi)).2
theorem open_ens {r : Reach} {b0 : Nat} {v : Value} {d : DataW H} {p : List MemPlace}
    (hv : Value.okWide Try.prog w r b0 30 v) (h : DataW.Trod enc Try.prog w base spare held 30 v d p) : ∃ l : List Opx, SrcV w v l ∧ ∀ R ∈ l, BdE R := by
  obtain ⟨a0, len, cap, rfl⟩ := okWide_slice Try.underlying30 hv
  obtain ⟨fuel, hfu⟩ := h
  exact ens_of_cells (by simpa [Value.cells] using hfu)
end
end Go.Proofs.Ytfbkjghipahipaa
