/-
  GgGB: GdU GdF GdG GdR, one behind the other (tools/merge.py).
-/
import Derived.Test.YtgidohnikggjfaaGreatGdPl
import Derived.Test.YtgidohnikggjfaaGreatTbV
import Derived.Test.YtgidohnikggjfaaGreatNsI
import Derived.RegionTactic
import Derived.BigRegion
import Derived.Test.YtgidohnikggjfaaGreatGgGA
/-
  Rows of grid's nodes and entries. Written by tools/mkGdU.py, after the rows of rules.
-/
namespace Go.Proofs.YtgidohnikggjfaaGreat
open Go.RowKit
set_option linter.unusedVariables false
set_option linter.unusedSimpArgs false

abbrev Ent := Nat × Nat
/-- A node: its two ways on, its destinations' root, its list. -/
structure Gn where
  a : Nat
  b : Nat
  c : Nat
  ad : Option Addr
  n : Nat
  cap : Nat
def encN (p : Gn) : List Value := [.int .i64 (p.a : Int), .int .i64 (p.b : Int), .int .i64 (p.c : Int), .slice p.ad p.n p.cap]
def flatN : List (Gn) → List Value
  | [] => []
  | p :: l => encN p ++ flatN l
theorem flatN_length (l : List (Gn)) : (flatN l).length = l.length * 4 := by
  induction l with
  | nil => rfl
  | cons p l ih => simp only [flatN, encN, List.length_append, List.length_cons, List.length_nil, ih]; omega
theorem flatN_append (l k : List (Gn)) : flatN (l ++ k) = flatN l ++ flatN k := by
  induction l with
  | nil => rfl
  | cons p l ih => simp only [flatN, List.cons_append, ih, List.append_assoc]
theorem flatN_one (l : List (Gn)) : ∀ u ∈ flatN l, u.oneCell' = true := by
  induction l with
  | nil => intro u hu; cases hu
  | cons p l ih =>
    intro u hu
    simp only [flatN, List.mem_append] at hu
    rcases hu with hu | hu
    · simp only [encN, List.mem_cons, List.not_mem_nil, or_false] at hu
      rcases hu with rfl | rfl | rfl | rfl <;> rfl
    · exact ih u hu
theorem flatN_at : ∀ (l : List (Gn)) (i : Nat) (h : i < l.length) (j : Nat) (hj : j < 4), (flatN l)[i * 4 + j]? = (encN (l[i]'h))[j]?
  | p :: l, 0, _, j, hj => by
    rw [Nat.zero_mul, Nat.zero_add]
    exact List.getElem?_append_left (by simp [encN]; omega)
  | p :: l, i + 1, h, j, hj => by
    have := flatN_at l i (by simpa using h) j hj
    show (encN p ++ flatN l)[(i + 1) * 4 + j]? = _
    rw [List.getElem?_append_right (by simp [encN]; omega), show (i + 1) * 4 + j - (encN p).length = i * 4 + j by simp [encN]; omega]
    exact this
theorem infoN : (Tryz.prog.info? 109).map (fun i => (i.zero, i.size, i.bytes)) = some (some (.agg #[.int .i64 0, .int .i64 0, .int .i64 0, .slice none 0 0]), 4, 48) := by kernel_rfl
/-- The row v of w holds the list. -/
def RowN (w : World) (base : Nat) (v : Value) (l : List (Gn)) : Prop := w.ownsRow base 109 4 v l.length (flatN l)
theorem RowN.base {w : World} {b b' : Nat} {v : Value} {l : List (Gn)} (h : RowN w b v l) (hb : b' ≤ b) : RowN w b' v l := by
  refine ⟨h.1, ?_⟩
  rcases h.2 with h2 | ⟨g, cap, cur, hv, hg, r⟩
  · exact .inl h2
  · exact .inr ⟨g, cap, cur, hv, by omega, r⟩
theorem RowN.on {w w1 : World} {b : Nat} {v : Value} {l : List (Gn)} (h : RowN w b v l) (hb : Below w.heap.size w w1) : RowN w1 b v l := by
  refine ⟨h.1, ?_⟩
  rcases h.2 with h2 | ⟨g, cap, cur, hv, hg, hh, r⟩
  · exact .inl h2
  · exact .inr ⟨g, cap, cur, hv, hg, by rw [hb.block g (Array.getElem?_eq_some_iff.1 hh).1]; exact hh, r⟩
theorem RowN.alloc {w : World} {b : Nat} {v : Value} {l : List (Gn)} (h : RowN w b v l) (o : Obj) : RowN (w.alloc o) b v l := World.ownsRow.alloc h o
theorem RowN.drew {w : World} {b : Nat} {v : Value} {l : List (Gn)} (h : RowN w b v l) : RowN w.drew b v l := h
theorem RowN.nil (w : World) (b : Nat) : RowN w b (.slice none 0 0) [] := World.ownsRow_nil w b _ _
theorem RowN.one (w : World) (b : Nat) (p : Gn) (hb : b ≤ w.heap.size) : RowN (w.alloc (.cells #[.int .i64 (p.a : Int), .int .i64 (p.b : Int), .int .i64 (p.c : Int), .slice p.ad p.n p.cap] 109)) b (.slice (some ⟨w.heap.size, 0, none⟩) 1 1) [p] :=
  World.ownsRow_lit w #[.int .i64 (p.a : Int), .int .i64 (p.b : Int), .int .i64 (p.c : Int), .slice p.ad p.n p.cap] 1 hb (by simp [maxLen]) rfl
theorem RowN.lt {w : World} {b : Nat} {v : Value} {l : List (Gn)} (h : RowN w b v l) : ∀ k, v.ownBlock = some k → b ≤ k ∧ k < w.heap.size := World.ownsRow.lt h
theorem RowN.put {w : World} {b : Nat} {v : Value} {l : List (Gn)} (h : RowN w b v l) {g i : Nat} (hg : some g ≠ v.ownBlock) (u : Value) : RowN (w.setCell ⟨g, i, none⟩ u) b v l := by
  refine ⟨h.1, ?_⟩
  rcases h.2 with h2 | ⟨g', cap, cur, hv, hb, hh, r⟩
  · exact .inl h2
  · exact .inr ⟨g', cap, cur, hv, hb, by rw [Below.heap_setCell _ _ _ _ (by intro e; apply hg; rw [hv]; simp [Value.ownBlock, e])]; exact hh, r⟩
/-- One owned row behind another. -/
theorem run_appendN (w : World) (ty : TypeId) (b : Nat) (v : Value) (l : List (Gn)) (h : RowN w b v l) (c : Nat) (u : Value) (k : List (Gn)) (hk : RowN w c u k)
    (hb : b ≤ w.heap.size) (hsz : l.length + k.length ≤ 4294967296) :
    ∃ v' w', (Builtin.append_ #[73, 73] ty #[v, u]).run Tryz.prog w = .ok v' w' ∧ RowN w' b v' (l ++ k) ∧ w.grownBy w' v.ownBlock := by
  obtain ⟨i0, hi, hz0, hz1, hz2⟩ := info_parts infoN
  have hmx : l.length + k.length ≤ maxLen := by unfold maxLen; omega
  rcases hk.2 with ⟨rfl, hk0⟩ | ⟨g, cap, cur, rfl, hg, hh, hnc, hcm, hcs, htk⟩
  · have hr := run_append_owned_none (P := Tryz.prog) (w := w) b 73 ty 109 i0 4 Tryz.underlying73 hi v l.length (flatN l) h
    refine ⟨v, w, hr, ?_, ⟨rfl, rfl, rfl, Nat.le_refl _, fun _ _ _ => rfl⟩⟩
    rw [List.eq_nil_of_length_eq_zero hk0, List.append_nil]
    exact h
  · have hn := World.ownsRow.cells hk (g := g) rfl
    obtain ⟨v', w', hr, ho, hgr, _⟩ := run_append_own (P := Tryz.prog) w b 73 ty 109 i0 (.agg #[.int .i64 0, .int .i64 0, .int .i64 0, .slice none 0 0]) 4 48 Tryz.underlying73 hi hz0 hz1 hz2 rfl (by decide) v l.length (flatN l) h ⟨g, 0, none⟩ k.length cap (flatN k) (flatN_length k) hn (flatN_one k) hmx (by omega) hb
    refine ⟨v', w', hr, ?_, hgr⟩
    unfold RowN
    rw [List.length_append, flatN_append]
    exact ho
theorem wp_appendN {o : Oper} {a : Act} {w : World} {K : Act → World → Prop} {Q : Exit → Act → World → Prop} (s x : Operand)
    (ho : o.op = .call { callee := .builtin .append, args := #[s, x], argTypes := #[73, 73] })
    (b : Nat) (v : Value) (l : List (Gn)) (hs : a.eval s = v) (h : RowN w b v l) (c : Nat) (u : Value) (k : List (Gn)) (hx : a.eval x = u) (hk : RowN w c u k)
    (hb : b ≤ w.heap.size) (hsz : l.length + k.length ≤ 4294967296)
    (hK : ∀ v' w', RowN w' b v' (l ++ k) → w.grownBy w' v.ownBlock → K (a.put o.dst v') w') : o.wp Tryz.prog a w K Q := by
  obtain ⟨v', w', hr, h2, h3⟩ := run_appendN w o.type b v l h c u k hk hb hsz
  unfold Oper.wp execOp
  simp only [ho, resolve, invoke, builtin, Sem.run_bind, Sem.run_pure, Result.andThen_ok, List.map_toArray, List.map_cons, List.map_nil, hs, hx, hr]
  exact hK v' w' h2 h3
theorem wpList_appendN {ops : Array Oper} {rest : List Oper} {o : Oper} {a : Act} {w : World} {Q : Exit → Act → World → Prop} (hgd : o.guard = none) (s x : Operand)
    (ho : o.op = .call { callee := .builtin .append, args := #[s, x], argTypes := #[73, 73] })
    (b : Nat) (v : Value) (l : List (Gn)) (hs : a.eval s = v) (h : RowN w b v l) (c : Nat) (u : Value) (k : List (Gn)) (hx : a.eval x = u) (hk : RowN w c u k)
    (hb : b ≤ w.heap.size) (hsz : l.length + k.length ≤ 4294967296)
    (hK : ∀ v' w', RowN w' b v' (l ++ k) → w.grownBy w' v.ownBlock → wpList Tryz.prog ops Q rest (a.put o.dst v') w') : wpList Tryz.prog ops Q (o :: rest) a w :=
  wpList_plain hgd fun _ hK' => wp_appendN s x ho b v l hs h c u k hx hk hb hsz fun v' w' h2 h3 => hK' _ _ (hK v' w' h2 h3)
theorem bel_grownN {B : Nat} {a w w' : World} {b : Nat} {v : Value} {l : List (Gn)} (h : Below B a w) (hr : RowN w b v l) (hg : w.grownBy w' v.ownBlock) (hB : B ≤ w.heap.size) (hb : B ≤ b) : Below B a w' :=
  h.grown hg hB fun k hk => Nat.le_trans hb (hr.lt k hk).1
/-- What a row looks like. -/
theorem RowN.form {w : World} {b : Nat} {v : Value} {l : List (Gn)} (h : RowN w b v l) :
    ∃ (ad : Option Addr) (cap : Nat), v = .slice ad l.length cap ∧ l.length ≤ cap ∧ (0 < l.length → ∃ g, ad = some ⟨g, 0, none⟩ ∧ b ≤ g ∧ g < w.heap.size ∧ ∀ k (hk : k < l.length) j, j < 4 → w.cell? ⟨g, k * 4 + j, none⟩ = (encN (l[k]'hk))[j]?) := by
  rcases h.2 with ⟨hv, hn⟩ | ⟨g, cap, cur, hv, hb, hg, hcap, r⟩
  · exact ⟨none, 0, by rw [hv, hn], by omega, fun h0 => by omega⟩
  · subst hv
    refine ⟨_, cap, rfl, hcap, fun _ => ⟨g, rfl, hb, (Array.getElem?_eq_some_iff.1 hg).1, fun k hk j hj => ?_⟩⟩
    have h' : w.ownsRow b 109 4 (.slice (some ⟨g, 0, none⟩) l.length cap) l.length (flatN l) := h
    rw [h'.cellAt (k * 4 + j) (by omega), flatN_at l k hk j hj]
theorem RowN.frozen {w : World} {b g cap n : Nat} {l : List (Gn)} (h : RowN w b (.slice (some ⟨g, 0, none⟩) n cap) l) (j : Nat) : w.frozen? ⟨g, j, none⟩ = false := by
  rcases h.2 with ⟨hv, _⟩ | ⟨g', cap', cur, hv, hb, hg, r⟩
  · cases hv
  · cases hv; simp [World.frozen?, hg]

/-- The slice v of w reads as the list of rules. -/
def SrcN (w : World) (v : Value) (l : List Gn) : Prop :=
  ∃ (ad : Option Addr) (cap : Nat), v = .slice ad l.length cap ∧ (l.length ≤ cap ∧ (ad = none → cap = 0)) ∧ (0 < l.length → ∃ g off, ad = some ⟨g, off, none⟩ ∧ ∀ k (hk : k < l.length) j, j < 4 → w.cell? ⟨g, off + (k * 4 + j), none⟩ = (encN (l[k]'hk))[j]?)
theorem encN_some (R : Gn) {j : Nat} (h : j < 4) : ∃ v, (encN R)[j]? = some v := ⟨(encN R)[j]'(by simp [encN]; omega), List.getElem?_eq_getElem _⟩
theorem SrcN.keep {w w1 : World} {v : Value} {l : List Gn} (h : SrcN w v l) (hb : Below w.heap.size w w1) : SrcN w1 v l := by
  obtain ⟨ad, cap, rfl, hc, h2⟩ := h
  refine ⟨ad, cap, rfl, hc, fun h0 => ?_⟩
  obtain ⟨g, off, rfl, h3⟩ := h2 h0
  exact ⟨g, off, rfl, fun k hk j hj => by
    have := h3 k hk j hj
    obtain ⟨u, hu⟩ := encN_some (l[k]'hk) hj
    rw [hb.cell (World.block_lt_of_cell? w _ (this.trans hu))]; exact this⟩
/-- A source whose block stays. -/
theorem SrcN.stay {w w1 : World} {v : Value} {l : List Gn} (h : SrcN w v l) (hb : ∀ k, v.ownBlock = some k → k < w.heap.size → w1.heap[k]? = w.heap[k]?) : SrcN w1 v l := by
  obtain ⟨ad, cap, rfl, hc, h2⟩ := h
  refine ⟨ad, cap, rfl, hc, fun h0 => ?_⟩
  obtain ⟨g, off, rfl, h3⟩ := h2 h0
  exact ⟨g, off, rfl, fun k hk j hj => by
    have := h3 k hk j hj
    obtain ⟨u, hu⟩ := encN_some (l[k]'hk) hj
    have hlt := World.block_lt_of_cell? w _ (this.trans hu)
    rw [World.cell?_of_block (w := w) (a := ⟨g, off + (k * 4 + j), none⟩) (hb g rfl hlt)]; exact this⟩
theorem RowN.src {w : World} {b : Nat} {v : Value} {l : List Gn} (h : RowN w b v l) : SrcN w v l := by
  obtain ⟨ad, cap, hv, hc, h2⟩ := h.form
  refine ⟨ad, cap, hv, ⟨hc, fun e => ?_⟩, fun h0 => ?_⟩
  · subst e
    rcases h.2 with ⟨hv', _⟩ | ⟨g, cap', cur, hv', _⟩
    · rw [hv] at hv'; injection hv'
    · rw [hv] at hv'; cases hv'
  obtain ⟨g, e, _, _, h3⟩ := h2 h0
  exact ⟨g, 0, e, fun k hk j hj => by rw [Nat.zero_add]; exact h3 k hk j hj⟩
theorem SrcN.flat {w : World} {g off n cap : Nat} {l : List Gn} (h : SrcN w (.slice (some ⟨g, off, none⟩) n cap) l) : ∀ j u, (flatN l)[j]? = some u → w.cell? ((⟨g, off, none⟩ : Addr).add j) = some u := by
  intro j u hu
  obtain ⟨ad, c, e, hc, h2⟩ := h
  cases e
  have hj : j < (flatN l).length := (List.getElem?_eq_some_iff.1 hu).1
  rw [flatN_length] at hj
  obtain ⟨g', off', e', h3⟩ := h2 (by omega)
  cases e'
  have hk : j / 4 < l.length := by omega
  have hm : j % 4 < 4 := Nat.mod_lt _ (by decide)
  have e1 : j / 4 * 4 + j % 4 = j := by omega
  have h4 := flatN_at l (j / 4) hk (j % 4) hm
  rw [e1] at h4
  have h5 := h3 (j / 4) hk (j % 4) hm
  rw [e1] at h5
  rw [Addr.add_lit, h5, ← h4]
  exact hu
theorem flatN_take (l : List Gn) (p : Nat) : (flatN l).take (p * 4) = flatN (l.take p) := by
  by_cases h : p ≤ l.length
  · have e := flatN_append (l.take p) (l.drop p)
    rw [List.take_append_drop] at e
    rw [e]
    have hl : (flatN (l.take p)).length = p * 4 := by rw [flatN_length, List.length_take]; congr 1; omega
    rw [List.take_append_of_le_length (by omega), List.take_of_length_le (by omega)]
  · rw [List.take_of_length_le (by rw [flatN_length]; omega), List.take_of_length_le (by omega)]
theorem flatN_drop (l : List Gn) (p : Nat) : (flatN l).drop (p * 4) = flatN (l.drop p) := by
  by_cases h : p ≤ l.length
  · have e := flatN_append (l.take p) (l.drop p)
    rw [List.take_append_drop] at e
    rw [e]
    have hl : (flatN (l.take p)).length = p * 4 := by rw [flatN_length, List.length_take]; congr 1; omega
    rw [← hl, List.drop_left]
  · rw [List.drop_eq_nil_of_le (by rw [flatN_length]; omega), List.drop_eq_nil_of_le (by omega)]; rfl
/-- A row with something in it. -/
theorem RowN.some {w : World} {b : Nat} {v : Value} {l : List Gn} (h : RowN w b v l) (h0 : 0 < l.length) : ∃ g cap, v = .slice (.some ⟨g, 0, none⟩) l.length cap ∧ l.length ≤ cap ∧ b ≤ g ∧ g < w.heap.size := by
  obtain ⟨ad, cap, hv, hc, h2⟩ := h.form
  obtain ⟨g, rfl, hb, hg, _⟩ := h2 h0
  exact ⟨g, cap, hv, hc, hb, hg⟩
/-- Rules laid over a row from a place on. -/
theorem RowN.over {w w' : World} {b g n cap : Nat} {l : List Gn} (h : RowN w b (.slice (.some ⟨g, 0, none⟩) n cap) l) (p : Nat) (k : List Gn) (hf : p + k.length ≤ n)
    (hw : ∀ cur, w.heap[g]? = .some (.cells cur 109 (0, 0)) → w'.heap[g]? = .some (.cells (cur.toList.take (p * 4) ++ flatN k ++ cur.toList.drop (p * 4 + (flatN k).length)).toArray 109 (0, 0))) :
    RowN w' b (.slice (.some ⟨g, 0, none⟩) n cap) (l.take p ++ k ++ l.drop (p + k.length)) := by
  have hn : l.length = n := by
    rcases h.2 with ⟨hv, _⟩ | ⟨g', cap', cur, hv, _⟩
    · cases hv
    · cases hv; rfl
  subst hn
  have hlen : (l.take p ++ k ++ l.drop (p + k.length)).length = l.length := by simp; omega
  rcases h.2 with ⟨hv, _⟩ | ⟨g', cap', cur, hv, hb, hg, hc, hm, hs, ht⟩
  · cases hv
  · cases hv
    refine ⟨by rw [hlen, flatN_length, hlen], .inr ⟨g, cap, _, by rw [hlen], hb, hw cur hg, by rw [hlen]; exact hc, hm, ?_, ?_⟩⟩
    · rw [flatN_length]
      simp only [List.size_toArray, List.length_append, List.length_take, List.length_drop, Array.length_toList, flatN_length]
      omega
    · rw [hlen]
      have e1 : cur.toList.take (p * 4) = flatN (l.take p) := by
        rw [← flatN_take, ← ht, List.take_take]; congr 1; omega
      have e2 : (cur.toList.drop (p * 4 + (flatN k).length)).take (l.length * 4 - (p * 4 + (flatN k).length)) = flatN (l.drop (p + k.length)) := by
        rw [← flatN_drop, ← ht, List.drop_take, flatN_length]
        rw [show p * 4 + k.length * 4 = (p + k.length) * 4 by omega]
      have l1 : (flatN (l.take p)).length = p * 4 := by rw [flatN_length, List.length_take]; omega
      rw [e1, flatN_append, flatN_append, ← e2]
      have l2 := flatN_length k
      rw [List.take_append, List.take_of_length_le (by rw [List.length_append, l1, l2]; omega)]
      congr 2
      rw [List.length_append, l1]
/-- 'append' of a source to an owned row; where the new row lies. -/
theorem run_appendSN (w : World) (ty : TypeId) (b : Nat) (v : Value) (l : List Gn) (h : RowN w b v l) (u : Value) (k : List Gn) (hk : SrcN w u k) (hb : b ≤ w.heap.size) (hsz : l.length + k.length ≤ 4294967296) :
    ∃ v' w', (Builtin.append_ #[73, 73] ty #[v, u]).run Tryz.prog w = .ok v' w' ∧ RowN w' b v' (l ++ k) ∧ w.grownBy w' v.ownBlock ∧ (v'.ownBlock = v.ownBlock ∨ v'.ownBlock = .some w.heap.size) := by
  obtain ⟨i0, hi, hz0, hz1, hz2⟩ := info_parts infoN
  have hmx : l.length + k.length ≤ maxLen := by unfold maxLen; omega
  have hk' := hk
  obtain ⟨ad, c, rfl, hc, h2⟩ := hk
  cases ad with
  | none =>
    have h0 : k.length = 0 := by have := hc.1; have := hc.2 rfl; omega
    have hc0 : c = 0 := hc.2 rfl
    have hr := run_append_owned_none (P := Tryz.prog) (w := w) b 73 ty 109 i0 4 Tryz.underlying73 hi v l.length (flatN l) h
    rw [h0, hc0]
    refine ⟨v, w, hr, ?_, ⟨rfl, rfl, rfl, Nat.le_refl _, fun _ _ _ => rfl⟩, .inl rfl⟩
    rw [List.eq_nil_of_length_eq_zero h0, List.append_nil]
    exact h
  | some a =>
    have hfl : ∀ j x, (flatN k)[j]? = .some x → w.cell? (a.add j) = .some x := by
      by_cases h0 : 0 < k.length
      · obtain ⟨g, off, e, _⟩ := h2 h0
        cases e
        exact hk'.flat
      · rw [List.eq_nil_of_length_eq_zero (by omega : k.length = 0)]
        intro j x hx
        simp [flatN] at hx
    obtain ⟨v', w', hr, ho, hgr, _, hat⟩ := run_append_own_at (P := Tryz.prog) w b 73 ty 109 i0 (.agg #[.int .i64 0, .int .i64 0, .int .i64 0, .slice none 0 0]) 4 48 Tryz.underlying73 hi hz0 hz1 hz2 rfl (by decide) v l.length (flatN l) h a k.length c (flatN k) (flatN_length k) hfl (flatN_one k) hmx (by omega) hb
    refine ⟨v', w', hr, ?_, hgr, hat⟩
    unfold RowN
    rw [List.length_append, flatN_append]
    exact ho
theorem wpList_appendSN {ops : Array Oper} {rest : List Oper} {o : Oper} {a : Act} {w : World} {Q : Exit → Act → World → Prop} (hgd : o.guard = none) (s x : Operand)
    (ho : o.op = .call { callee := .builtin .append, args := #[s, x], argTypes := #[73, 73] })
    (b : Nat) (v : Value) (l : List Gn) (hs : a.eval s = v) (h : RowN w b v l) (u : Value) (k : List Gn) (hx : a.eval x = u) (hk : SrcN w u k)
    (hb : b ≤ w.heap.size) (hsz : l.length + k.length ≤ 4294967296)
    (hK : ∀ v' w', RowN w' b v' (l ++ k) → w.grownBy w' v.ownBlock → (v'.ownBlock = v.ownBlock ∨ v'.ownBlock = .some w.heap.size) → wpList Tryz.prog ops Q rest (a.put o.dst v') w') : wpList Tryz.prog ops Q (o :: rest) a w := by
  refine wpList_plain hgd fun K hK' => ?_
  obtain ⟨v', w', hr, h2, h3, h4⟩ := run_appendSN w o.type b v l h u k hk hb hsz
  unfold Oper.wp execOp
  simp only [ho, resolve, invoke, builtin, Sem.run_bind, Sem.run_pure, Result.andThen_ok, List.map_toArray, List.map_cons, List.map_nil, hs, hx, hr]
  exact hK' _ _ (hK v' w' h2 h3 h4)
/-- A rule stored into an owned row. -/
theorem wp_storeN {o : Oper} {a : Act} {w : World} {K : Act → World → Prop} {Q : Exit → Act → World → Prop} (x y : Operand) (ho : o.op = .store 109 x y)
    (b g n cap : Nat) (l : List Gn) (hr : RowN w b (.slice (some ⟨g, 0, none⟩) n cap) l) (p : Nat) (hp : p < n) (R : Gn) (hx : a.eval x = .pointer (some ⟨g, p * 4, none⟩)) (hy : a.eval y = .agg #[.int .i64 (R.a : Int), .int .i64 (R.b : Int), .int .i64 (R.c : Int), .slice R.ad R.n R.cap])
    (hK : ∀ w', RowN w' b (.slice (some ⟨g, 0, none⟩) n cap) (l.take p ++ [R] ++ l.drop (p + [R].length)) → w.grownBy w' (some g) → K (a.put o.dst undef) w') : o.wp Tryz.prog a w K Q := by
  obtain ⟨cur, hg, hcs⟩ : ∃ cur, w.heap[g]? = some (.cells cur 109 (0, 0)) ∧ cur.size = cap * 4 ∧ n ≤ cap := by
    rcases hr.2 with ⟨hv, _⟩ | ⟨g', cap', cur, hv, hb, hg, hc, hm, hs, ht⟩
    · cases hv
    · cases hv; exact ⟨cur, hg, hs, by omega⟩
  refine wp_store_blk 109 x y ho g (p * 4) (encN R).toArray (cur.toList.take (p * 4) ++ encN R ++ cur.toList.drop (p * 4 + (encN R).toArray.size)).toArray hx hy 109 cur hg (by simp [encN]; omega) (by simp) (by kernel_rfl) (by simp [encN, Value.oneCell']) ?_
  intro w' h1 h2
  have hf : flatN [R] = encN R := by simp [flatN]
  refine hK w' (hr.over p [R] (by simp; omega) (fun cur' hg' => ?_)) ⟨h2.os, h2.tape, h2.output, Nat.le_of_eq h2.size.symm, fun k _ hk => h2.block k (fun e => hk (by rw [e]))⟩
  rw [hg] at hg'
  cases hg'
  rw [hf]
  simpa using h1
def encY (p : Ent) : List Value := [.int .i64 (p.1 : Int), .int .i64 (p.2 : Int)]
def flatY : List (Ent) → List Value
  | [] => []
  | p :: l => encY p ++ flatY l
theorem flatY_length (l : List (Ent)) : (flatY l).length = l.length * 2 := by
  induction l with
  | nil => rfl
  | cons p l ih => simp only [flatY, encY, List.length_append, List.length_cons, List.length_nil, ih]; omega
theorem flatY_append (l k : List (Ent)) : flatY (l ++ k) = flatY l ++ flatY k := by
  induction l with
  | nil => rfl
  | cons p l ih => simp only [flatY, List.cons_append, ih, List.append_assoc]
theorem flatY_one (l : List (Ent)) : ∀ u ∈ flatY l, u.oneCell' = true := by
  induction l with
  | nil => intro u hu; cases hu
  | cons p l ih =>
    intro u hu
    simp only [flatY, List.mem_append] at hu
    rcases hu with hu | hu
    · simp only [encY, List.mem_cons, List.not_mem_nil, or_false] at hu
      rcases hu with rfl | rfl <;> rfl
    · exact ih u hu
theorem flatY_at : ∀ (l : List (Ent)) (i : Nat) (h : i < l.length) (j : Nat) (hj : j < 2), (flatY l)[i * 2 + j]? = (encY (l[i]'h))[j]?
  | p :: l, 0, _, j, hj => by
    rw [Nat.zero_mul, Nat.zero_add]
    exact List.getElem?_append_left (by simp [encY]; omega)
  | p :: l, i + 1, h, j, hj => by
    have := flatY_at l i (by simpa using h) j hj
    show (encY p ++ flatY l)[(i + 1) * 2 + j]? = _
    rw [List.getElem?_append_right (by simp [encY]; omega), show (i + 1) * 2 + j - (encY p).length = i * 2 + j by simp [encY]; omega]
    exact this
theorem infoY : (Tryz.prog.info? 161).map (fun i => (i.zero, i.size, i.bytes)) = some (some (.agg #[.int .i64 0, .int .i64 0]), 2, 16) := by kernel_rfl
/-- The row v of w holds the list. -/
def RowY (w : World) (base : Nat) (v : Value) (l : List (Ent)) : Prop := w.ownsRow base 161 2 v l.length (flatY l)
theorem RowY.base {w : World} {b b' : Nat} {v : Value} {l : List (Ent)} (h : RowY w b v l) (hb : b' ≤ b) : RowY w b' v l := by
  refine ⟨h.1, ?_⟩
  rcases h.2 with h2 | ⟨g, cap, cur, hv, hg, r⟩
  · exact .inl h2
  · exact .inr ⟨g, cap, cur, hv, by omega, r⟩
theorem RowY.on {w w1 : World} {b : Nat} {v : Value} {l : List (Ent)} (h : RowY w b v l) (hb : Below w.heap.size w w1) : RowY w1 b v l := by
  refine ⟨h.1, ?_⟩
  rcases h.2 with h2 | ⟨g, cap, cur, hv, hg, hh, r⟩
  · exact .inl h2
  · exact .inr ⟨g, cap, cur, hv, hg, by rw [hb.block g (Array.getElem?_eq_some_iff.1 hh).1]; exact hh, r⟩
theorem RowY.alloc {w : World} {b : Nat} {v : Value} {l : List (Ent)} (h : RowY w b v l) (o : Obj) : RowY (w.alloc o) b v l := World.ownsRow.alloc h o
theorem RowY.drew {w : World} {b : Nat} {v : Value} {l : List (Ent)} (h : RowY w b v l) : RowY w.drew b v l := h
theorem RowY.nil (w : World) (b : Nat) : RowY w b (.slice none 0 0) [] := World.ownsRow_nil w b _ _
theorem RowY.one (w : World) (b : Nat) (p : Ent) (hb : b ≤ w.heap.size) : RowY (w.alloc (.cells #[.int .i64 (p.1 : Int), .int .i64 (p.2 : Int)] 161)) b (.slice (some ⟨w.heap.size, 0, none⟩) 1 1) [p] :=
  World.ownsRow_lit w #[.int .i64 (p.1 : Int), .int .i64 (p.2 : Int)] 1 hb (by simp [maxLen]) rfl
theorem RowY.lt {w : World} {b : Nat} {v : Value} {l : List (Ent)} (h : RowY w b v l) : ∀ k, v.ownBlock = some k → b ≤ k ∧ k < w.heap.size := World.ownsRow.lt h
theorem RowY.put {w : World} {b : Nat} {v : Value} {l : List (Ent)} (h : RowY w b v l) {g i : Nat} (hg : some g ≠ v.ownBlock) (u : Value) : RowY (w.setCell ⟨g, i, none⟩ u) b v l := by
  refine ⟨h.1, ?_⟩
  rcases h.2 with h2 | ⟨g', cap, cur, hv, hb, hh, r⟩
  · exact .inl h2
  · exact .inr ⟨g', cap, cur, hv, hb, by rw [Below.heap_setCell _ _ _ _ (by intro e; apply hg; rw [hv]; simp [Value.ownBlock, e])]; exact hh, r⟩
/-- One owned row behind another. -/
theorem run_appendY (w : World) (ty : TypeId) (b : Nat) (v : Value) (l : List (Ent)) (h : RowY w b v l) (c : Nat) (u : Value) (k : List (Ent)) (hk : RowY w c u k)
    (hb : b ≤ w.heap.size) (hsz : l.length + k.length ≤ 4294967296) :
    ∃ v' w', (Builtin.append_ #[152, 152] ty #[v, u]).run Tryz.prog w = .ok v' w' ∧ RowY w' b v' (l ++ k) ∧ w.grownBy w' v.ownBlock := by
  obtain ⟨i0, hi, hz0, hz1, hz2⟩ := info_parts infoY
  have hmx : l.length + k.length ≤ maxLen := by unfold maxLen; omega
  rcases hk.2 with ⟨rfl, hk0⟩ | ⟨g, cap, cur, rfl, hg, hh, hnc, hcm, hcs, htk⟩
  · have hr := run_append_owned_none (P := Tryz.prog) (w := w) b 152 ty 161 i0 2 Tryz.underlying152 hi v l.length (flatY l) h
    refine ⟨v, w, hr, ?_, ⟨rfl, rfl, rfl, Nat.le_refl _, fun _ _ _ => rfl⟩⟩
    rw [List.eq_nil_of_length_eq_zero hk0, List.append_nil]
    exact h
  · have hn := World.ownsRow.cells hk (g := g) rfl
    obtain ⟨v', w', hr, ho, hgr, _⟩ := run_append_own (P := Tryz.prog) w b 152 ty 161 i0 (.agg #[.int .i64 0, .int .i64 0]) 2 16 Tryz.underlying152 hi hz0 hz1 hz2 rfl (by decide) v l.length (flatY l) h ⟨g, 0, none⟩ k.length cap (flatY k) (flatY_length k) hn (flatY_one k) hmx (by omega) hb
    refine ⟨v', w', hr, ?_, hgr⟩
    unfold RowY
    rw [List.length_append, flatY_append]
    exact ho
theorem wp_appendY {o : Oper} {a : Act} {w : World} {K : Act → World → Prop} {Q : Exit → Act → World → Prop} (s x : Operand)
    (ho : o.op = .call { callee := .builtin .append, args := #[s, x], argTypes := #[152, 152] })
    (b : Nat) (v : Value) (l : List (Ent)) (hs : a.eval s = v) (h : RowY w b v l) (c : Nat) (u : Value) (k : List (Ent)) (hx : a.eval x = u) (hk : RowY w c u k)
    (hb : b ≤ w.heap.size) (hsz : l.length + k.length ≤ 4294967296)
    (hK : ∀ v' w', RowY w' b v' (l ++ k) → w.grownBy w' v.ownBlock → K (a.put o.dst v') w') : o.wp Tryz.prog a w K Q := by
  obtain ⟨v', w', hr, h2, h3⟩ := run_appendY w o.type b v l h c u k hk hb hsz
  unfold Oper.wp execOp
  simp only [ho, resolve, invoke, builtin, Sem.run_bind, Sem.run_pure, Result.andThen_ok, List.map_toArray, List.map_cons, List.map_nil, hs, hx, hr]
  exact hK v' w' h2 h3
theorem wpList_appendY {ops : Array Oper} {rest : List Oper} {o : Oper} {a : Act} {w : World} {Q : Exit → Act → World → Prop} (hgd : o.guard = none) (s x : Operand)
    (ho : o.op = .call { callee := .builtin .append, args := #[s, x], argTypes := #[152, 152] })
    (b : Nat) (v : Value) (l : List (Ent)) (hs : a.eval s = v) (h : RowY w b v l) (c : Nat) (u : Value) (k : List (Ent)) (hx : a.eval x = u) (hk : RowY w c u k)
    (hb : b ≤ w.heap.size) (hsz : l.length + k.length ≤ 4294967296)
    (hK : ∀ v' w', RowY w' b v' (l ++ k) → w.grownBy w' v.ownBlock → wpList Tryz.prog ops Q rest (a.put o.dst v') w') : wpList Tryz.prog ops Q (o :: rest) a w :=
  wpList_plain hgd fun _ hK' => wp_appendY s x ho b v l hs h c u k hx hk hb hsz fun v' w' h2 h3 => hK' _ _ (hK v' w' h2 h3)
theorem bel_grownY {B : Nat} {a w w' : World} {b : Nat} {v : Value} {l : List (Ent)} (h : Below B a w) (hr : RowY w b v l) (hg : w.grownBy w' v.ownBlock) (hB : B ≤ w.heap.size) (hb : B ≤ b) : Below B a w' :=
  h.grown hg hB fun k hk => Nat.le_trans hb (hr.lt k hk).1
/-- What a row looks like. -/
theorem RowY.form {w : World} {b : Nat} {v : Value} {l : List (Ent)} (h : RowY w b v l) :
    ∃ (ad : Option Addr) (cap : Nat), v = .slice ad l.length cap ∧ l.length ≤ cap ∧ (0 < l.length → ∃ g, ad = some ⟨g, 0, none⟩ ∧ b ≤ g ∧ g < w.heap.size ∧ ∀ k (hk : k < l.length) j, j < 2 → w.cell? ⟨g, k * 2 + j, none⟩ = (encY (l[k]'hk))[j]?) := by
  rcases h.2 with ⟨hv, hn⟩ | ⟨g, cap, cur, hv, hb, hg, hcap, r⟩
  · exact ⟨none, 0, by rw [hv, hn], by omega, fun h0 => by omega⟩
  · subst hv
    refine ⟨_, cap, rfl, hcap, fun _ => ⟨g, rfl, hb, (Array.getElem?_eq_some_iff.1 hg).1, fun k hk j hj => ?_⟩⟩
    have h' : w.ownsRow b 161 2 (.slice (some ⟨g, 0, none⟩) l.length cap) l.length (flatY l) := h
    rw [h'.cellAt (k * 2 + j) (by omega), flatY_at l k hk j hj]
theorem RowY.frozen {w : World} {b g cap n : Nat} {l : List (Ent)} (h : RowY w b (.slice (some ⟨g, 0, none⟩) n cap) l) (j : Nat) : w.frozen? ⟨g, j, none⟩ = false := by
  rcases h.2 with ⟨hv, _⟩ | ⟨g', cap', cur, hv, hb, hg, r⟩
  · cases hv
  · cases hv; simp [World.frozen?, hg]

/-- The slice v of w reads as the list of rules. -/
def SrcY (w : World) (v : Value) (l : List Ent) : Prop :=
  ∃ (ad : Option Addr) (cap : Nat), v = .slice ad l.length cap ∧ (l.length ≤ cap ∧ (ad = none → cap = 0)) ∧ (0 < l.length → ∃ g off, ad = some ⟨g, off, none⟩ ∧ ∀ k (hk : k < l.length) j, j < 2 → w.cell? ⟨g, off + (k * 2 + j), none⟩ = (encY (l[k]'hk))[j]?)
theorem encY_some (R : Ent) {j : Nat} (h : j < 2) : ∃ v, (encY R)[j]? = some v := ⟨(encY R)[j]'(by simp [encY]; omega), List.getElem?_eq_getElem _⟩
theorem SrcY.keep {w w1 : World} {v : Value} {l : List Ent} (h : SrcY w v l) (hb : Below w.heap.size w w1) : SrcY w1 v l := by
  obtain ⟨ad, cap, rfl, hc, h2⟩ := h
  refine ⟨ad, cap, rfl, hc, fun h0 => ?_⟩
  obtain ⟨g, off, rfl, h3⟩ := h2 h0
  exact ⟨g, off, rfl, fun k hk j hj => by
    have := h3 k hk j hj
    obtain ⟨u, hu⟩ := encY_some (l[k]'hk) hj
    rw [hb.cell (World.block_lt_of_cell? w _ (this.trans hu))]; exact this⟩
/-- A source whose block stays. -/
theorem SrcY.stay {w w1 : World} {v : Value} {l : List Ent} (h : SrcY w v l) (hb : ∀ k, v.ownBlock = some k → k < w.heap.size → w1.heap[k]? = w.heap[k]?) : SrcY w1 v l := by
  obtain ⟨ad, cap, rfl, hc, h2⟩ := h
  refine ⟨ad, cap, rfl, hc, fun h0 => ?_⟩
  obtain ⟨g, off, rfl, h3⟩ := h2 h0
  exact ⟨g, off, rfl, fun k hk j hj => by
    have := h3 k hk j hj
    obtain ⟨u, hu⟩ := encY_some (l[k]'hk) hj
    have hlt := World.block_lt_of_cell? w _ (this.trans hu)
    rw [World.cell?_of_block (w := w) (a := ⟨g, off + (k * 2 + j), none⟩) (hb g rfl hlt)]; exact this⟩
theorem RowY.src {w : World} {b : Nat} {v : Value} {l : List Ent} (h : RowY w b v l) : SrcY w v l := by
  obtain ⟨ad, cap, hv, hc, h2⟩ := h.form
  refine ⟨ad, cap, hv, ⟨hc, fun e => ?_⟩, fun h0 => ?_⟩
  · subst e
    rcases h.2 with ⟨hv', _⟩ | ⟨g, cap', cur, hv', _⟩
    · rw [hv] at hv'; injection hv'
    · rw [hv] at hv'; cases hv'
  obtain ⟨g, e, _, _, h3⟩ := h2 h0
  exact ⟨g, 0, e, fun k hk j hj => by rw [Nat.zero_add]; exact h3 k hk j hj⟩
theorem SrcY.flat {w : World} {g off n cap : Nat} {l : List Ent} (h : SrcY w (.slice (some ⟨g, off, none⟩) n cap) l) : ∀ j u, (flatY l)[j]? = some u → w.cell? ((⟨g, off, none⟩ : Addr).add j) = some u := by
  intro j u hu
  obtain ⟨ad, c, e, hc, h2⟩ := h
  cases e
  have hj : j < (flatY l).length := (List.getElem?_eq_some_iff.1 hu).1
  rw [flatY_length] at hj
  obtain ⟨g', off', e', h3⟩ := h2 (by omega)
  cases e'
  have hk : j / 2 < l.length := by omega
  have hm : j % 2 < 2 := Nat.mod_lt _ (by decide)
  have e1 : j / 2 * 2 + j % 2 = j := by omega
  have h4 := flatY_at l (j / 2) hk (j % 2) hm
  rw [e1] at h4
  have h5 := h3 (j / 2) hk (j % 2) hm
  rw [e1] at h5
  rw [Addr.add_lit, h5, ← h4]
  exact hu
theorem flatY_take (l : List Ent) (p : Nat) : (flatY l).take (p * 2) = flatY (l.take p) := by
  by_cases h : p ≤ l.length
  · have e := flatY_append (l.take p) (l.drop p)
    rw [List.take_append_drop] at e
    rw [e]
    have hl : (flatY (l.take p)).length = p * 2 := by rw [flatY_length, List.length_take]; congr 1; omega
    rw [List.take_append_of_le_length (by omega), List.take_of_length_le (by omega)]
  · rw [List.take_of_length_le (by rw [flatY_length]; omega), List.take_of_length_le (by omega)]
theorem flatY_drop (l : List Ent) (p : Nat) : (flatY l).drop (p * 2) = flatY (l.drop p) := by
  by_cases h : p ≤ l.length
  · have e := flatY_append (l.take p) (l.drop p)
    rw [List.take_append_drop] at e
    rw [e]
    have hl : (flatY (l.take p)).length = p * 2 := by rw [flatY_length, List.length_take]; congr 1; omega
    rw [← hl, List.drop_left]
  · rw [List.drop_eq_nil_of_le (by rw [flatY_length]; omega), List.drop_eq_nil_of_le (by omega)]; rfl
/-- A row with something in it. -/
theorem RowY.some {w : World} {b : Nat} {v : Value} {l : List Ent} (h : RowY w b v l) (h0 : 0 < l.length) : ∃ g cap, v = .slice (.some ⟨g, 0, none⟩) l.length cap ∧ l.length ≤ cap ∧ b ≤ g ∧ g < w.heap.size := by
  obtain ⟨ad, cap, hv, hc, h2⟩ := h.form
  obtain ⟨g, rfl, hb, hg, _⟩ := h2 h0
  exact ⟨g, cap, hv, hc, hb, hg⟩
/-- Rules laid over a row from a place on. -/
theorem RowY.over {w w' : World} {b g n cap : Nat} {l : List Ent} (h : RowY w b (.slice (.some ⟨g, 0, none⟩) n cap) l) (p : Nat) (k : List Ent) (hf : p + k.length ≤ n)
    (hw : ∀ cur, w.heap[g]? = .some (.cells cur 161 (0, 0)) → w'.heap[g]? = .some (.cells (cur.toList.take (p * 2) ++ flatY k ++ cur.toList.drop (p * 2 + (flatY k).length)).toArray 161 (0, 0))) :
    RowY w' b (.slice (.some ⟨g, 0, none⟩) n cap) (l.take p ++ k ++ l.drop (p + k.length)) := by
  have hn : l.length = n := by
    rcases h.2 with ⟨hv, _⟩ | ⟨g', cap', cur, hv, _⟩
    · cases hv
    · cases hv; rfl
  subst hn
  have hlen : (l.take p ++ k ++ l.drop (p + k.length)).length = l.length := by simp; omega
  rcases h.2 with ⟨hv, _⟩ | ⟨g', cap', cur, hv, hb, hg, hc, hm, hs, ht⟩
  · cases hv
  · cases hv
    refine ⟨by rw [hlen, flatY_length, hlen], .inr ⟨g, cap, _, by rw [hlen], hb, hw cur hg, by rw [hlen]; exact hc, hm, ?_, ?_⟩⟩
    · rw [flatY_length]
      simp only [List.size_toArray, List.length_append, List.length_take, List.length_drop, Array.length_toList, flatY_length]
      omega
    · rw [hlen]
      have e1 : cur.toList.take (p * 2) = flatY (l.take p) := by
        rw [← flatY_take, ← ht, List.take_take]; congr 1; omega
      have e2 : (cur.toList.drop (p * 2 + (flatY k).length)).take (l.length * 2 - (p * 2 + (flatY k).length)) = flatY (l.drop (p + k.length)) := by
        rw [← flatY_drop, ← ht, List.drop_take, flatY_length]
        rw [show p * 2 + k.length * 2 = (p + k.length) * 2 by omega]
      have l1 : (flatY (l.take p)).length = p * 2 := by rw [flatY_length, List.length_take]; omega
      rw [e1, flatY_append, flatY_append, ← e2]
      have l2 := flatY_length k
      rw [List.take_append, List.take_of_length_le (by rw [List.length_append, l1, l2]; omega)]
      congr 2
      rw [List.length_append, l1]
/-- 'append' of a source to an owned row; where the new row lies. -/
theorem run_appendSY (w : World) (ty : TypeId) (b : Nat) (v : Value) (l : List Ent) (h : RowY w b v l) (u : Value) (k : List Ent) (hk : SrcY w u k) (hb : b ≤ w.heap.size) (hsz : l.length + k.length ≤ 4294967296) :
    ∃ v' w', (Builtin.append_ #[152, 152] ty #[v, u]).run Tryz.prog w = .ok v' w' ∧ RowY w' b v' (l ++ k) ∧ w.grownBy w' v.ownBlock ∧ (v'.ownBlock = v.ownBlock ∨ v'.ownBlock = .some w.heap.size) := by
  obtain ⟨i0, hi, hz0, hz1, hz2⟩ := info_parts infoY
  have hmx : l.length + k.length ≤ maxLen := by unfold maxLen; omega
  have hk' := hk
  obtain ⟨ad, c, rfl, hc, h2⟩ := hk
  cases ad with
  | none =>
    have h0 : k.length = 0 := by have := hc.1; have := hc.2 rfl; omega
    have hc0 : c = 0 := hc.2 rfl
    have hr := run_append_owned_none (P := Tryz.prog) (w := w) b 152 ty 161 i0 2 Tryz.underlying152 hi v l.length (flatY l) h
    rw [h0, hc0]
    refine ⟨v, w, hr, ?_, ⟨rfl, rfl, rfl, Nat.le_refl _, fun _ _ _ => rfl⟩, .inl rfl⟩
    rw [List.eq_nil_of_length_eq_zero h0, List.append_nil]
    exact h
  | some a =>
    have hfl : ∀ j x, (flatY k)[j]? = .some x → w.cell? (a.add j) = .some x := by
      by_cases h0 : 0 < k.length
      · obtain ⟨g, off, e, _⟩ := h2 h0
        cases e
        exact hk'.flat
      · rw [List.eq_nil_of_length_eq_zero (by omega : k.length = 0)]
        intro j x hx
        simp [flatY] at hx
    obtain ⟨v', w', hr, ho, hgr, _, hat⟩ := run_append_own_at (P := Tryz.prog) w b 152 ty 161 i0 (.agg #[.int .i64 0, .int .i64 0]) 2 16 Tryz.underlying152 hi hz0 hz1 hz2 rfl (by decide) v l.length (flatY l) h a k.length c (flatY k) (flatY_length k) hfl (flatY_one k) hmx (by omega) hb
    refine ⟨v', w', hr, ?_, hgr, hat⟩
    unfold RowY
    rw [List.length_append, flatY_append]
    exact ho
theorem wpList_appendSY {ops : Array Oper} {rest : List Oper} {o : Oper} {a : Act} {w : World} {Q : Exit → Act → World → Prop} (hgd : o.guard = none) (s x : Operand)
    (ho : o.op = .call { callee := .builtin .append, args := #[s, x], argTypes := #[152, 152] })
    (b : Nat) (v : Value) (l : List Ent) (hs : a.eval s = v) (h : RowY w b v l) (u : Value) (k : List Ent) (hx : a.eval x = u) (hk : SrcY w u k)
    (hb : b ≤ w.heap.size) (hsz : l.length + k.length ≤ 4294967296)
    (hK : ∀ v' w', RowY w' b v' (l ++ k) → w.grownBy w' v.ownBlock → (v'.ownBlock = v.ownBlock ∨ v'.ownBlock = .some w.heap.size) → wpList Tryz.prog ops Q rest (a.put o.dst v') w') : wpList Tryz.prog ops Q (o :: rest) a w := by
  refine wpList_plain hgd fun K hK' => ?_
  obtain ⟨v', w', hr, h2, h3, h4⟩ := run_appendSY w o.type b v l h u k hk hb hsz
  unfold Oper.wp execOp
  simp only [ho, resolve, invoke, builtin, Sem.run_bind, Sem.run_pure, Result.andThen_ok, List.map_toArray, List.map_cons, List.map_nil, hs, hx, hr]
  exact hK' _ _ (hK v' w' h2 h3 h4)
/-- A rule stored into an owned row. -/
theorem wp_storeY {o : Oper} {a : Act} {w : World} {K : Act → World → Prop} {Q : Exit → Act → World → Prop} (x y : Operand) (ho : o.op = .store 161 x y)
    (b g n cap : Nat) (l : List Ent) (hr : RowY w b (.slice (some ⟨g, 0, none⟩) n cap) l) (p : Nat) (hp : p < n) (R : Ent) (hx : a.eval x = .pointer (some ⟨g, p * 2, none⟩)) (hy : a.eval y = .agg #[.int .i64 (R.1 : Int), .int .i64 (R.2 : Int)])
    (hK : ∀ w', RowY w' b (.slice (some ⟨g, 0, none⟩) n cap) (l.take p ++ [R] ++ l.drop (p + [R].length)) → w.grownBy w' (some g) → K (a.put o.dst undef) w') : o.wp Tryz.prog a w K Q := by
  obtain ⟨cur, hg, hcs⟩ : ∃ cur, w.heap[g]? = some (.cells cur 161 (0, 0)) ∧ cur.size = cap * 2 ∧ n ≤ cap := by
    rcases hr.2 with ⟨hv, _⟩ | ⟨g', cap', cur, hv, hb, hg, hc, hm, hs, ht⟩
    · cases hv
    · cases hv; exact ⟨cur, hg, hs, by omega⟩
  refine wp_store_blk 161 x y ho g (p * 2) (encY R).toArray (cur.toList.take (p * 2) ++ encY R ++ cur.toList.drop (p * 2 + (encY R).toArray.size)).toArray hx hy 161 cur hg (by simp [encY]; omega) (by simp) (by kernel_rfl) (by simp [encY, Value.oneCell']) ?_
  intro w' h1 h2
  have hf : flatY [R] = encY R := by simp [flatY]
  refine hK w' (hr.over p [R] (by simp; omega) (fun cur' hg' => ?_)) ⟨h2.os, h2.tape, h2.output, Nat.le_of_eq h2.size.symm, fun k _ hk => h2.block k (fun e => hk (by rw [e]))⟩
  rw [hg] at hg'
  cases hg'
  rw [hf]
  simpa using h1

end Go.Proofs.YtgidohnikggjfaaGreat
/-
  A forest in memory: its nodes, its long list; what a call that writes it leaves as it was.
-/
namespace Go.Proofs.YtgidohnikggjfaaGreat
open Go.RowKit
set_option linter.unusedVariables false
set_option linter.unusedSimpArgs false

theorem run_appendI (w : World) (ty : TypeId) (b : Nat) (v : Value) (l : List Int) (h : RowI w b v l) (g n c : Nat) (k : List Int) (hk : SrcI w (.slice (some ⟨g, 0, none⟩) n c) k) (hc : ∀ j (hj : j < k.length), w.cell? ⟨g, j, none⟩ = some (.int .i64 (k[j]'hj))) (hb : b ≤ w.heap.size) (hsz : l.length + k.length ≤ 4294967296) :
    ∃ v' w', (Builtin.append_ #[74, 74] ty #[v, .slice (some ⟨g, 0, none⟩) n c]).run Tryz.prog w = .ok v' w' ∧ RowI w' b v' (l ++ k) ∧ w.grownBy w' v.ownBlock := by
  obtain ⟨i0, hi, hz0, hz1, hz2⟩ := info_parts infoI
  have hmx : l.length + k.length ≤ maxLen := by unfold maxLen; omega
  have hn : n = k.length := by obtain ⟨_, _, e, _⟩ := hk; injection e
  subst hn
  have hfl : ∀ j x, (eI k)[j]? = some x → w.cell? ((⟨g, 0, none⟩ : Addr).add j) = some x := by
    intro j x hx
    have hj : j < k.length := by have := (List.getElem?_eq_some_iff.1 hx).1; rwa [eI_len] at this
    rw [eI_at hj] at hx
    rw [Addr.add_lit, Nat.zero_add, hc j hj]; exact hx
  obtain ⟨v', w', hr, ho, hgr, _, hat⟩ := run_append_own_at (P := Tryz.prog) w b 74 ty 3 i0 (.int .i64 0) 1 8 Tryz.underlying74 hi hz0 hz1 hz2 rfl (by decide) v l.length (eI l) h ⟨g, 0, none⟩ k.length c (eI k) (by rw [eI_len]; omega) hfl (eI_one k) hmx (by omega) hb
  refine ⟨v', w', hr, ?_, hgr⟩
  unfold RowI
  rw [List.length_append, eI_app]
  exact ho
theorem wpList_appendI {ops : Array Oper} {rest : List Oper} {o : Oper} {a : Act} {w : World} {Q : Exit → Act → World → Prop} (hgd : o.guard = none) (s x : Operand)
    (ho : o.op = .call { callee := .builtin .append, args := #[s, x], argTypes := #[74, 74] })
    (b : Nat) (v : Value) (l : List Int) (hs : a.eval s = v) (h : RowI w b v l) (g : Nat) (y : Int) (hx : a.eval x = .slice (some ⟨g, 0, none⟩) 1 1) (hk : w.cell? ⟨g, 0, none⟩ = some (.int .i64 y))
    (hb : b ≤ w.heap.size) (hsz : l.length + 1 ≤ 4294967296)
    (hK : ∀ v' w', RowI w' b v' (l ++ [y]) → w.grownBy w' v.ownBlock → wpList Tryz.prog ops Q rest (a.put o.dst v') w') : wpList Tryz.prog ops Q (o :: rest) a w := by
  refine wpList_plain hgd fun K hK' => ?_
  have hcs : ∀ j (hj : j < [y].length), w.cell? ⟨g, j, none⟩ = some (.int .i64 ([y][j]'hj)) := fun j hj => by
    have : j = 0 := by simp at hj; exact hj
    subst this; exact hk
  obtain ⟨v', w', hr, h2, h3⟩ := run_appendI w o.type b v l h g 1 1 [y] ⟨_, _, rfl, fun _ => ⟨g, 0, rfl, fun k hk2 => by rw [Nat.zero_add]; exact hcs k hk2⟩⟩ hcs hb hsz
  unfold Oper.wp execOp
  simp only [ho, resolve, invoke, builtin, Sem.run_bind, Sem.run_pure, Result.andThen_ok, List.map_toArray, List.map_cons, List.map_nil, hs, hx, hr]
  exact hK' _ _ (hK v' w' h2 h3)

/-- A cell of a node is another. -/
theorem flatN_set : ∀ (l : List Gn) (i j : Nat) (y : Gn) (u : Value) (h : i < l.length), j < 4 → encN y = (encN (l[i]'h)).set j u → (flatN l).set (i * 4 + j) u = flatN (l.set i y)
  | [], i, j, y, u, h, _, _ => by simp at h
  | x :: l, 0, j, y, u, h, hj, e => by
    rw [List.set_cons_zero, Nat.zero_mul, Nat.zero_add]
    show (encN x ++ flatN l).set j u = encN y ++ flatN l
    rw [List.set_append_left _ _ (by simp [encN]; omega), e]; rfl
  | x :: l, i + 1, j, y, u, h, hj, e => by
    rw [List.set_cons_succ]
    show (encN x ++ flatN l).set ((i + 1) * 4 + j) u = encN x ++ flatN (l.set i y)
    have hl : (encN x).length = 4 := by simp [encN]
    rw [List.set_append_right _ _ (by rw [hl]; omega), hl, show (i + 1) * 4 + j - 4 = i * 4 + j by omega]
    rw [flatN_set l i j y u (by simpa using h) hj (by simpa using e)]
theorem RowN.set {w : World} {b g n cap : Nat} {l : List Gn} (h : RowN w b (.slice (Option.some ⟨g, 0, none⟩) n cap) l) (i j : Nat) (hi : i < l.length) (hj : j < 4) (y : Gn) (u : Value) (e : encN y = (encN (l[i]'hi)).set j u) :
    RowN (w.setCell ⟨g, i * 4 + j, none⟩ u) b (.slice (Option.some ⟨g, 0, none⟩) n cap) (l.set i y) ∧ w.grownBy (w.setCell ⟨g, i * 4 + j, none⟩ u) (Option.some g) := by
  have hn : n = l.length := by obtain ⟨ad, c, e, _⟩ := h.form; injection e
  subst hn
  obtain ⟨a1, b1⟩ := World.ownsRow.stored h (i * 4 + j) u
  rw [flatN_set l i j y u hi hj e] at a1
  exact ⟨by unfold RowN; simpa using a1, b1⟩
def Gn.p (x : Gn) : Pn := ⟨x.a, x.b, x.c⟩
def Gn.v (x : Gn) : Value := .slice x.ad x.n x.cap
def mk0 (x : Pn) : Gn := ⟨x.a, x.b, x.c, none, 0, 0⟩
theorem mk0_p (N : List Pn) : (N.map mk0).map Gn.p = N := by rw [List.map_map]; exact List.map_id N
/-- The same node with another list. -/
def Gn.lay (x : Gn) (ad : Option Addr) (n cap : Nat) : Gn := ⟨x.a, x.b, x.c, ad, n, cap⟩
/-- The same list at another node. -/
def Gn.at (x : Gn) (y : Pn) : Gn := ⟨y.a, y.b, y.c, x.ad, x.n, x.cap⟩
theorem enc_put (x : Pn) (t k : Nat) (ht : t = 0 ∨ t = 1) : encN (mk0 (x.put t k)) = (encN (mk0 x)).set t (.int .i64 (k : Int)) := by
  rcases ht with rfl | rfl <;> rfl
theorem enc_putG (x : Gn) (t k : Nat) (ht : t = 0 ∨ t = 1) : encN (x.at (x.p.put t k)) = (encN x).set t (.int .i64 (k : Int)) := by
  rcases ht with rfl | rfl <;> rfl
theorem enc_bear (x : Pn) (k : Nat) : encN (mk0 (x.bear k)) = (encN (mk0 x)).set 2 (.int .i64 (k : Int)) := rfl
theorem enc_lay (x : Gn) (ad : Option Addr) (n cap : Nat) : encN (x.lay ad n cap) = (encN x).set 3 (.slice ad n cap) := rfl
/-- A row of slices. -/
def RowL (w : World) (b : Nat) (v : Value) (vs : List Value) : Prop := w.ownsRow b 74 1 v vs.length vs
theorem infoL : (Tryz.prog.info? 74).map (fun i => (i.zero, i.size, i.bytes)) = some (some (.slice none 0 0), 1, 24) := by kernel_rfl
theorem RowL.on {w w1 : World} {b : Nat} {v : Value} {l : List Value} (h : RowL w b v l) (hb : Below w.heap.size w w1) : RowL w1 b v l := by
  refine ⟨h.1, ?_⟩
  rcases h.2 with h2 | ⟨g, cap, cur, hv, hg, hh, q⟩
  · exact .inl h2
  · exact .inr ⟨g, cap, cur, hv, hg, by rw [hb.block g (blk_lt hh)]; exact hh, q⟩
theorem RowL.stay {w w1 : World} {b : Nat} {v : Value} {l : List Value} (h : RowL w b v l) (hb : ∀ k, v.ownBlock = some k → w1.heap[k]? = w.heap[k]?) : RowL w1 b v l := by
  refine ⟨h.1, ?_⟩
  rcases h.2 with h2 | ⟨g, cap, cur, hv, hg, hh, q⟩
  · exact .inl h2
  · exact .inr ⟨g, cap, cur, hv, hg, by rw [hb g (by rw [hv]; rfl)]; exact hh, q⟩
theorem RowN.stay {w w1 : World} {b : Nat} {v : Value} {l : List Gn} (h : RowN w b v l) (hb : ∀ k, v.ownBlock = Option.some k → w1.heap[k]? = w.heap[k]?) : RowN w1 b v l := by
  refine ⟨h.1, ?_⟩
  rcases h.2 with h2 | ⟨g, cap, cur, hv, hg, hh, q⟩
  · exact .inl h2
  · exact .inr ⟨g, cap, cur, hv, hg, by rw [hb g (by rw [hv]; rfl)]; exact hh, q⟩
theorem RowL.lt {w : World} {b : Nat} {v : Value} {l : List Value} (h : RowL w b v l) : ∀ k, v.ownBlock = some k → b ≤ k ∧ k < w.heap.size := World.ownsRow.lt h
theorem RowL.form {w : World} {b : Nat} {v : Value} {l : List Value} (h : RowL w b v l) : ∃ (ad : Option Addr) (cap : Nat), v = .slice ad l.length cap ∧ l.length ≤ cap ∧
    (0 < l.length → ∃ g, ad = some ⟨g, 0, none⟩ ∧ g < w.heap.size ∧ ∀ k (hk : k < l.length), w.cell? ⟨g, k, none⟩ = some (l[k]'hk)) := by
  rcases h.2 with ⟨rfl, h0⟩ | ⟨g, cap, cur, rfl, hg, hh, h1, h2, h3, h4⟩
  · exact ⟨none, 0, by rw [h0], by omega, fun h => by omega⟩
  · refine ⟨some ⟨g, 0, none⟩, cap, rfl, h1, fun _ => ⟨g, rfl, blk_lt hh, fun k hk => blk_cell hh ?_⟩⟩
    have : (cur.toList.take (l.length * 1))[k]? = some l[k] := by rw [h4]; exact List.getElem?_eq_getElem hk
    rw [List.getElem?_take_of_lt (by omega)] at this
    simpa using this
theorem run_appendL (w : World) (ty : TypeId) (b : Nat) (v : Value) (l : List Value) (h : RowL w b v l) (g : Nat) (y : Value) (hy : y.oneCell' = true) (hk : w.cell? ⟨g, 0, none⟩ = some y) (hb : b ≤ w.heap.size) (hsz : l.length + 1 ≤ 4294967296) :
    ∃ v' w', (Builtin.append_ #[82, 82] ty #[v, .slice (some ⟨g, 0, none⟩) 1 1]).run Tryz.prog w = .ok v' w' ∧ RowL w' b v' (l ++ [y]) ∧ w.grownBy w' v.ownBlock ∧ (v'.ownBlock = v.ownBlock ∨ v'.ownBlock = .some w.heap.size) := by
  obtain ⟨i0, hi, hz0, hz1, hz2⟩ := info_parts infoL
  have hmx : l.length + 1 ≤ maxLen := by unfold maxLen; omega
  have hfl : ∀ j x, [y][j]? = some x → w.cell? ((⟨g, 0, none⟩ : Addr).add j) = some x := by
    intro j x hx
    have hj : j = 0 := by have := (List.getElem?_eq_some_iff.1 hx).1; simpa using this
    subst hj
    rw [Addr.add_lit, Nat.zero_add, hk]; simpa using hx
  obtain ⟨v', w', hr, ho, hgr, _, hat⟩ := run_append_own_at (P := Tryz.prog) w b 82 ty 74 i0 (.slice none 0 0) 1 24 Tryz.underlying82 hi hz0 hz1 hz2 rfl (by decide) v l.length l h ⟨g, 0, none⟩ 1 1 [y] (by simp) hfl (by simpa using hy) hmx (by omega) hb
  refine ⟨v', w', hr, ?_, hgr, hat⟩
  unfold RowL
  rw [List.length_append]
  exact ho
theorem wp_appendL {o : Oper} {a : Act} {w : World} {K : Act → World → Prop} {Q : Exit → Act → World → Prop} (s x : Operand)
    (ho : o.op = .call { callee := .builtin .append, args := #[s, x], argTypes := #[82, 82] })
    (b : Nat) (v : Value) (l : List Value) (hs : a.eval s = v) (h : RowL w b v l) (g : Nat) (y : Value) (hx : a.eval x = .slice (some ⟨g, 0, none⟩) 1 1) (hy : y.oneCell' = true) (hk : w.cell? ⟨g, 0, none⟩ = some y)
    (hb : b ≤ w.heap.size) (hsz : l.length + 1 ≤ 4294967296)
    (hK : ∀ v' w', RowL w' b v' (l ++ [y]) → w.grownBy w' v.ownBlock → (v'.ownBlock = v.ownBlock ∨ v'.ownBlock = .some w.heap.size) → K (a.put o.dst v') w') : o.wp Tryz.prog a w K Q := by
  obtain ⟨v', w', hr, h2, h3, h4⟩ := run_appendL w o.type b v l h g y hy hk hb hsz
  unfold Oper.wp execOp
  simp only [ho, resolve, invoke, builtin, Sem.run_bind, Sem.run_pure, Result.andThen_ok, List.map_toArray, List.map_cons, List.map_nil, hs, hx, hr]
  exact hK v' w' h2 h3 h4
theorem SrcI.stay {w w1 : World} {v : Value} {l : List Int} (h : SrcI w v l) (hb : ∀ k, v.ownBlock = some k → k < w.heap.size → w1.heap[k]? = w.heap[k]?) : SrcI w1 v l := by
  obtain ⟨ad, cap, rfl, h2⟩ := h
  refine ⟨ad, cap, rfl, fun h0 => ?_⟩
  obtain ⟨g, off, rfl, h3⟩ := h2 h0
  refine ⟨g, off, rfl, fun k hk => ?_⟩
  have h4 := h3 k hk
  have hlt : g < w.heap.size := by
    unfold World.cell? at h4
    by_cases hg : g < w.heap.size
    · exact hg
    · simp only [Array.getElem?_eq_none (Nat.le_of_not_lt hg)] at h4
      simp at h4
  unfold World.cell? at h4 ⊢
  rw [hb g rfl hlt]; exact h4
/-- The blocks that a forest writes. -/
def Own (F : Nat) (nv lv : Value) (k : Nat) : Prop := k = F ∨ nv.ownBlock = some k ∨ lv.ownBlock = some k
/-- The forest in the variable of block F. -/
structure Fs (w : World) (F : Nat) (nv lv : Value) (L : List Gn) : Prop where
  blk : w.heap[F]? = some (.cells #[nv, lv] 76 (0, 0))
  nod : RowN w 0 nv L
  lw : ∀ k, lv.ownBlock = some k → k < w.heap.size
  ap : ∀ k, nv.ownBlock = some k → lv.ownBlock ≠ some k
  ap1 : nv.ownBlock ≠ some F
  ap2 : lv.ownBlock ≠ some F
theorem Fs.lt {w : World} {F : Nat} {nv lv : Value} {L : List Gn} (h : Fs w F nv lv L) : F < w.heap.size := blk_lt h.blk
theorem Fs.own {w : World} {F : Nat} {nv lv : Value} {L : List Gn} (h : Fs w F nv lv L) {k : Nat} (e : Own F nv lv k) : k < w.heap.size := by
  rcases e with rfl | e | e
  · exact h.lt
  · exact (h.nod.lt k e).2
  · exact h.lw k e
theorem Fs.on {w w1 : World} {F : Nat} {nv lv : Value} {L : List Gn} (h : Fs w F nv lv L) (hb : Below w.heap.size w w1) : Fs w1 F nv lv L := ⟨blk_on h.blk hb, h.nod.on hb, fun k e => Nat.lt_of_lt_of_le (h.lw k e) hb.size, h.ap, h.ap1, h.ap2⟩
/-- What a call that writes a forest leaves as it was. -/
structure Fm (w w' : World) (F : Nat) (nv lv nv' lv' : Value) : Prop where
  os : w'.os = w.os
  tape : w'.tape = w.tape
  output : w'.output = w.output
  size : w.heap.size ≤ w'.heap.size
  block : ∀ k, k < w.heap.size → ¬ Own F nv lv k → w'.heap[k]? = w.heap[k]?
  own : ∀ k, Own F nv' lv' k → Own F nv lv k ∨ w.heap.size ≤ k
theorem Fm.of_below {w w' : World} {F : Nat} {nv lv : Value} (h : Below w.heap.size w w') : Fm w w' F nv lv nv lv := ⟨h.os, h.tape, h.output, h.size, fun k hk _ => h.block k hk, fun k e => .inl e⟩
theorem Fm.trans {w w1 w2 : World} {F : Nat} {nv lv nv1 lv1 nv2 lv2 : Value} (h : Fm w w1 F nv lv nv1 lv1) (g : Fm w1 w2 F nv1 lv1 nv2 lv2) : Fm w w2 F nv lv nv2 lv2 :=
  ⟨g.os.trans h.os, g.tape.trans h.tape, g.output.trans h.output, Nat.le_trans h.size g.size, fun k hk ho => by
    rw [g.block k (Nat.lt_of_lt_of_le hk h.size) (fun e => by
      rcases h.own k e with a | a
      · exact ho a
      · omega), h.block k hk ho], fun k e => by
    rcases g.own k e with a | a
    · exact h.own k a
    · exact .inr (Nat.le_trans h.size a)⟩
theorem Fm.below {w w' : World} {F B : Nat} {nv lv nv' lv' : Value} (h : Fm w w' F nv lv nv' lv') (hB : B ≤ w.heap.size) (ho : ∀ k, Own F nv lv k → B ≤ k) : Below B w w' :=
  ⟨h.os, h.tape, h.output, h.size, fun k hk => h.block k (by omega) (fun e => by have := ho k e; omega)⟩
theorem Fm.ge {w w' : World} {F B : Nat} {nv lv nv' lv' : Value} (h : Fm w w' F nv lv nv' lv') (hB : B ≤ w.heap.size) (ho : ∀ k, Own F nv lv k → B ≤ k) : ∀ k, Own F nv' lv' k → B ≤ k := fun k e => by
  rcases h.own k e with a | a
  · exact ho k a
  · omega
/-- A block that is not the forest's. -/
def Kf (w : World) (F : Nat) (nv lv : Value) (B : Nat) (o : Obj) : Prop := w.heap[B]? = some o ∧ ¬ Own F nv lv B
theorem Kf.moved {w w' : World} {F : Nat} {nv lv nv' lv' : Value} {B : Nat} {o : Obj} (h : Kf w F nv lv B o) (m : Fm w w' F nv lv nv' lv') : Kf w' F nv' lv' B o := by
  have hl := blk_lt h.1
  refine ⟨by rw [m.block B hl h.2]; exact h.1, fun e => ?_⟩
  rcases m.own B e with a | a
  · exact h.2 a
  · omega
theorem Kf.on {w w1 : World} {F : Nat} {nv lv : Value} {B : Nat} {o : Obj} (h : Kf w F nv lv B o) (hb : Below w.heap.size w w1) : Kf w1 F nv lv B o := ⟨blk_on h.1 hb, h.2⟩
theorem Kf.new {w : World} {F : Nat} {nv lv : Value} {L : List Gn} (h : Fs w F nv lv L) (o : Obj) : Kf (w.alloc o) F nv lv w.heap.size o := ⟨blk_new w o, fun e => by have := h.own e; omega⟩
/-- A source that is not the forest's. -/
def Ku (w : World) (F : Nat) (nv lv : Value) (v : Value) (l : List Ru) : Prop := SrcU w v l ∧ (∀ k, v.ownBlock = some k → k < w.heap.size) ∧ ∀ k, v.ownBlock = some k → ¬ Own F nv lv k
theorem Ku.moved {w w' : World} {F : Nat} {nv lv nv' lv' v : Value} {l : List Ru} (h : Ku w F nv lv v l) (m : Fm w w' F nv lv nv' lv') : Ku w' F nv' lv' v l :=
  ⟨h.1.stay (fun k e hk => m.block k hk (h.2.2 k e)), fun k e => Nat.lt_of_lt_of_le (h.2.1 k e) m.size, fun k e o => by
    rcases m.own k o with a | a
    · exact h.2.2 k e a
    · have := h.2.1 k e; omega⟩
theorem Ku.on {w w1 : World} {F : Nat} {nv lv v : Value} {l : List Ru} (h : Ku w F nv lv v l) (hb : Below w.heap.size w w1) : Ku w1 F nv lv v l := ⟨h.1.keep hb, fun k e => Nat.lt_of_lt_of_le (h.2.1 k e) hb.size, h.2.2⟩
def Ki (w : World) (F : Nat) (nv lv : Value) (v : Value) (l : List Int) : Prop := SrcI w v l ∧ (∀ k, v.ownBlock = some k → k < w.heap.size) ∧ ∀ k, v.ownBlock = some k → ¬ Own F nv lv k
theorem Ki.moved {w w' : World} {F : Nat} {nv lv nv' lv' v : Value} {l : List Int} (h : Ki w F nv lv v l) (m : Fm w w' F nv lv nv' lv') : Ki w' F nv' lv' v l :=
  ⟨h.1.stay (fun k e hk => m.block k hk (h.2.2 k e)), fun k e => Nat.lt_of_lt_of_le (h.2.1 k e) m.size, fun k e o => by
    rcases m.own k o with a | a
    · exact h.2.2 k e a
    · have := h.2.1 k e; omega⟩
theorem Ki.on {w w1 : World} {F : Nat} {nv lv v : Value} {l : List Int} (h : Ki w F nv lv v l) (hb : Below w.heap.size w w1) : Ki w1 F nv lv v l := ⟨h.1.keep hb, fun k e => Nat.lt_of_lt_of_le (h.2.1 k e) hb.size, h.2.2⟩
theorem only_setCellF (w : World) (t j : Nat) (u : Value) : Only t w (w.setCell ⟨t, j, none⟩ u) :=
  ⟨rfl, rfl, rfl, by simp, fun k hk => Below.heap_setCell w ⟨t, j, none⟩ u k hk⟩
def Ky (w : World) (F : Nat) (nv lv : Value) (v : Value) (l : List Ent) : Prop := SrcY w v l ∧ (∀ k, v.ownBlock = some k → k < w.heap.size) ∧ ∀ k, v.ownBlock = some k → ¬ Own F nv lv k
theorem Ky.moved {w w' : World} {F : Nat} {nv lv nv' lv' v : Value} {l : List Ent} (h : Ky w F nv lv v l) (m : Fm w w' F nv lv nv' lv') : Ky w' F nv' lv' v l :=
  ⟨h.1.stay (fun k e hk => m.block k hk (h.2.2 k e)), fun k e => Nat.lt_of_lt_of_le (h.2.1 k e) m.size, fun k e o => by
    rcases m.own k o with a | a
    · exact h.2.2 k e a
    · have := h.2.1 k e; omega⟩
theorem Ky.on {w w1 : World} {F : Nat} {nv lv v : Value} {l : List Ent} (h : Ky w F nv lv v l) (hb : Below w.heap.size w w1) : Ky w1 F nv lv v l := ⟨h.1.keep hb, fun k e => Nat.lt_of_lt_of_le (h.2.1 k e) hb.size, h.2.2⟩
/-- The nodes' row is another, and the variable has it. -/
theorem Fs.nodes {w w5 : World} {F : Nat} {nv lv nv' : Value} {L L' : List Gn} (h : Fs w F nv lv L) (hr : RowN w5 0 nv' L') (hg : w.grownBy w5 nv.ownBlock) (ha : nv'.ownBlock = nv.ownBlock ∨ nv'.ownBlock = some w.heap.size) :
    Fs (w5.setCell ⟨F, 0, none⟩ nv') F nv' lv L' ∧ Fm w (w5.setCell ⟨F, 0, none⟩ nv') F nv lv nv' lv := by
  have ho := only_setCellF w5 F 0 nv'
  have hF := h.lt
  have hnF : nv'.ownBlock ≠ some F := by
    rcases ha with e | e <;> rw [e]
    · exact h.ap1
    · simp; omega
  have hb5 : w5.heap[F]? = some (.cells #[nv, lv] 76 (0, 0)) := (hg.block F hF (fun e => h.ap1 e.symm)).trans h.blk
  have hkeep : ∀ k, k < w.heap.size → k ≠ F → nv.ownBlock ≠ some k → (w5.setCell ⟨F, 0, none⟩ nv').heap[k]? = w.heap[k]? := fun k hk h1 h2 => by rw [ho.block k h1, hg.block k hk (fun e => h2 e.symm)]
  refine ⟨⟨blk_set hb5 _, hr.stay (fun k e => ho.block k (fun e' => hnF (by rw [e, e']))), fun k e => Nat.lt_of_lt_of_le (h.lw k e) (by rw [World.size_setCell]; exact hg.size), ?_, hnF, h.ap2⟩, ⟨hg.os, hg.tape, hg.output, by rw [World.size_setCell]; exact hg.size, fun k hk hno => hkeep k hk (fun e => hno (.inl e)) (fun e => hno (.inr (.inl e))), ?_⟩⟩
  · intro k e e'
    rcases ha with a | a
    · exact h.ap k (by rw [← a]; exact e) e'
    · have := h.lw k e'; rw [a] at e; cases e; omega
  · rintro k (e | e | e)
    · exact .inl (.inl e)
    · rcases ha with a | a
      · exact .inl (.inr (.inl (by rw [← a]; exact e)))
      · rw [a] at e; cases e; exact .inr (Nat.le_refl _)
    · exact .inl (.inr (.inr e))
/-- A cell of a node was written. -/
theorem Fs.cell {w : World} {F g n cap : Nat} {lv : Value} {L : List Gn} (h : Fs w F (.slice (some ⟨g, 0, none⟩) n cap) lv L) (i j : Nat) (hi : i < L.length) (hj : j < 4) (y : Gn) (u : Value) (e : encN y = (encN (L[i]'hi)).set j u) :
    Fs (w.setCell ⟨g, i * 4 + j, none⟩ u) F (.slice (some ⟨g, 0, none⟩) n cap) lv (L.set i y) ∧ Fm w (w.setCell ⟨g, i * 4 + j, none⟩ u) F (.slice (some ⟨g, 0, none⟩) n cap) lv (.slice (some ⟨g, 0, none⟩) n cap) lv := by
  obtain ⟨hr, hg⟩ := h.nod.set i j hi hj y u e
  have ho := only_setCellF w g (i * 4 + j) u
  have hFg : F ≠ g := fun e => h.ap1 (by simp [Value.ownBlock, e])
  have hkeep : ∀ k, k ≠ g → (w.setCell ⟨g, i * 4 + j, none⟩ u).heap[k]? = w.heap[k]? := fun k h1 => ho.block k h1
  have hgn : ∀ k, k = g → (Value.slice (some ⟨g, 0, none⟩) n cap).ownBlock = some k := fun k e => by rw [e]; rfl
  exact ⟨⟨by rw [hkeep F hFg]; exact h.blk, hr, fun k e => by rw [World.size_setCell]; exact h.lw k e, h.ap, h.ap1, h.ap2⟩, ⟨rfl, rfl, rfl, by rw [World.size_setCell]; exact Nat.le_refl _, fun k hk hno => hkeep k (fun e => hno (.inr (.inl (hgn k e)))), fun k e => .inl e⟩⟩
theorem map_set0 (N : List Pn) (i : Nat) (y : Pn) : (N.map mk0).set i (mk0 y) = (N.set i y).map mk0 := by rw [List.map_set]
theorem Fs.cell0 {w : World} {F g n cap : Nat} {lv : Value} {N : List Pn} (h : Fs w F (.slice (some ⟨g, 0, none⟩) n cap) lv (N.map mk0)) (i j : Nat) (x : Pn) (hx : N[i]? = some x) (hj : j < 4) (y : Pn) (u : Value) (e : encN (mk0 y) = (encN (mk0 x)).set j u) :
    Fs (w.setCell ⟨g, i * 4 + j, none⟩ u) F (.slice (some ⟨g, 0, none⟩) n cap) lv ((N.set i y).map mk0) ∧ Fm w (w.setCell ⟨g, i * 4 + j, none⟩ u) F (.slice (some ⟨g, 0, none⟩) n cap) lv (.slice (some ⟨g, 0, none⟩) n cap) lv := by
  rw [← map_set0]
  have hi := pn_lt hx
  refine h.cell i j (by simpa using hi) hj (mk0 y) u ?_
  rw [List.getElem_map, e]
  rw [List.getElem?_eq_getElem hi] at hx
  rw [Option.some.inj hx]
/-- A node's cells. -/
theorem RowN.cells {w : World} {b : Nat} {nv : Value} {L : List Gn} (h : RowN w b nv L) {i : Nat} {x : Gn} (hx : L[i]? = Option.some x) :
    ∃ g cap, nv = .slice (Option.some ⟨g, 0, none⟩) L.length cap ∧ L.length ≤ cap ∧ w.cell? ⟨g, i * 4, none⟩ = Option.some (.int .i64 (x.a : Int)) ∧ w.cell? ⟨g, i * 4 + 1, none⟩ = Option.some (.int .i64 (x.b : Int)) ∧ w.cell? ⟨g, i * 4 + 2, none⟩ = Option.some (.int .i64 (x.c : Int)) ∧ w.cell? ⟨g, i * 4 + 3, none⟩ = Option.some (.slice x.ad x.n x.cap) ∧ (∀ j, w.frozen? ⟨g, j, none⟩ = false) ∧ x = L[i]'(pn_lt hx) := by
  have hi := pn_lt hx
  have ex : x = L[i] := by rw [List.getElem?_eq_getElem hi] at hx; exact (Option.some.inj hx).symm
  obtain ⟨ad, cap, rfl, hcap, hat⟩ := h.form
  obtain ⟨g, rfl, _, hg, hc⟩ := hat (by omega)
  have hc1 := hc i hi
  rw [← ex] at hc1
  exact ⟨g, cap, rfl, hcap, hc1 0 (by decide), hc1 1 (by decide), hc1 2 (by decide), hc1 3 (by decide), fun j => h.frozen j, ex⟩
theorem map_at0 {N : List Pn} {i : Nat} {x : Pn} (h : N[i]? = some x) : (N.map mk0)[i]? = some (mk0 x) := by rw [List.getElem?_map, h]; rfl
theorem len_map0 (N : List Pn) : (N.map mk0).length = N.length := List.length_map _
/-- A forest that is read, at a place of a block. -/
structure Fo (w : World) (B o : Nat) (nv : Value) (L : List Gn) : Prop where
  c0 : w.cell? ⟨B, o, none⟩ = some nv
  nod : RowN w 0 nv L
theorem Fo.on {w w1 : World} {B o : Nat} {nv : Value} {L : List Gn} (h : Fo w B o nv L) (hb : Below w.heap.size w w1) : Fo w1 B o nv L := ⟨cell_on1 hb h.c0, h.nod.on hb⟩
theorem Fs.fo {w : World} {F : Nat} {nv lv : Value} {L : List Gn} (h : Fs w F nv lv L) : Fo w F 0 nv L := ⟨blk_cell h.blk rfl, h.nod⟩
end Go.Proofs.YtgidohnikggjfaaGreat
/-
  bits.At; a node more.
-/
namespace Go.Proofs.YtgidohnikggjfaaGreat
open Go.RowKit
set_option linter.unusedVariables false
set_option linter.unusedSimpArgs false

theorem bitC (a i : Nat) (w : World) (ha : a < 4294967296) (hi : i < 32) :
    Calls Tryz.prog 77 #[.int .u32 (a : Int), .int .i64 (i : Int)] w fun e w' => e = .returned (.int .i64 (Pf.tb a i : Int)) ∧ w' = w := by
  have hb : bits .and .u32 ((a : Int) / 2 ^ (31 - i)) 1 = (Pf.tb a i : Int) := by
    have h2 := Pf.bit_int a i
    rw [← h2]
    have e : ((a : Int) / 2 ^ (31 - i)) = ((a / 2 ^ (31 - i) : Nat) : Int) := by simp
    rw [e]
    have hlt : a / 2 ^ (31 - i) < 4294967296 := Nat.lt_of_le_of_lt (Nat.div_le_self _ _) ha
    generalize a / 2 ^ (31 - i) = q at *
    have h3 := Pf.and_lw q 31 hlt
    rw [show Pf.bk 31 = 2 by decide] at h3
    simpa using h3
  go_enter Tryz.func77, Tryz.ntmps77
  go_wp2
  go_ret
  exact ⟨congrArg (fun z => Ending.returned (.int .i64 z)) (Pf.wrap64_nat _ (by have := Pf.tb_lt a i; omega)), rfl⟩
theorem atBC (a i : Nat) (w : World) (ha : a < 4294967296) (hi : i ≤ 33) :
    Calls Tryz.prog 55 #[.int .u32 (a : Int), .int .i64 (i : Int)] w fun e w' => ∃ er : Int, e = .returned (.tuple #[.int .i64 (btv a i : Nat), .int .i64 er]) ∧ w' = w := by
  by_cases h : i < 32
  · have e : btv a i = Pf.tb a i := if_pos h
    rw [e]
    have h' : ¬ (32 : Int) ≤ (i : Int) := by omega
    go_enter Tryz.func55, Tryz.ntmps55
    go_wp2_with (go_at_call 77; refine (bitC a i _ ha h).mono ?_; rintro e w' ⟨rfl, rfl⟩)
    go_ret2
    exact ⟨0, rfl, rfl⟩
  · have e : btv a i = 0 := if_neg h
    rw [e]
    have h' : (32 : Int) ≤ (i : Int) := by omega
    go_enter Tryz.func55, Tryz.ntmps55
    go_wp2
    go_ret2
    exact ⟨1, rfl, rfl⟩
set_option maxHeartbeats 4000000 in
set_option maxRecDepth 20000 in
theorem growC (F : Nat) (nv lv : Value) (L : List Gn) (w : World) (h : Fs w F nv lv L) (hN : L.length ≤ 4294967295) :
    Calls Tryz.prog 103 #[.pointer (some ⟨F, 0, none⟩)] w fun e w' => e = .returned (.int .i64 (L.length : Int)) ∧ ∃ nv', Fs w' F nv' lv (L ++ [mk0 pz]) ∧ Fm w w' F nv lv nv' lv := by
  have hlt := h.lt
  have HF : Hid (Fs w F nv lv L) := h
  obtain ⟨c0, c1⟩ := blk2 h.blk
  obtain ⟨ad, cap, rfl, hcap, hat⟩ := h.nod.form
  obtain ⟨n, hn⟩ : ∃ n, n = L.length := ⟨_, rfl⟩
  have Hn : Hid (n = L.length) := hn
  have HL : Hid ((L ++ [mk0 pz]).length = n + 1) := by show _ = _; rw [List.length_append, hn]; rfl
  rw [← hn] at hN hcap c0 HF ⊢
  clear hat h hn
  have hn0 : (n : Int) ≤ 4294967295 := by omega
  have hne : ¬ F = w.heap.size := by omega
  have HFa : Hid (Fs (w.alloc (.cells #[.int .i64 0, .int .i64 0, .int .i64 0, .slice none 0 0] 109)) F (.slice ad n cap) lv L) := HF.out.on ((Below.refl _ _).alloc (Nat.le_refl _) _)
  have HS : Hid (SrcN (w.alloc (.cells #[.int .i64 0, .int .i64 0, .int .i64 0, .slice none 0 0] 109)) (.slice (some ⟨w.heap.size, 0, none⟩) 1 1) [mk0 pz]) := (RowN.one w 0 (mk0 pz) (Nat.zero_le _)).src
  have HM0 : Hid (Fm w (w.alloc (.cells #[.int .i64 0, .int .i64 0, .int .i64 0, .slice none 0 0] 109)) F (.slice ad n cap) lv (.slice ad n cap) lv) := Fm.of_below ((Below.refl _ _).alloc (Nat.le_refl _) _)
  go_enter Tryz.func103, Tryz.ntmps103
  go_wp2_with (first | (at_builtin; refine wpList_appendSN rfl (.tmp 7) (.tmp 9) rfl 0 (.slice ad n cap) L rfl HFa.out.nod _ [mk0 pz] rfl HS.out (Nat.zero_le _) (by rw [← Hn.out]; simp; omega) ?_; intro v5 w5 hrow5 hgr5 hat5; obtain ⟨g1, cap1, hv5, hc1, _, hg1⟩ := hrow5.some (by simp); rw [HL.out] at hv5 hc1; subst hv5; have h5 : w5.heap[F]? = some (.cells #[.slice ad n cap, lv] 76 (0, 0)) := (hgr5.block F (by simp; omega) (fun e => HFa.out.ap1 e.symm)).trans HFa.out.blk; have e2 := (blk2 h5).1; have f2 := blk_free h5 0))
  go_ret
  have hfin := HFa.out.nodes hrow5 hgr5 hat5
  exact ⟨ret_int (by omega), _, hfin.1, HM0.out.trans hfin.2⟩
end Go.Proofs.YtgidohnikggjfaaGreat
/-
  The way from a root to a prefix.
-/
namespace Go.Proofs.YtgidohnikggjfaaGreat
open Go.RowKit
set_option linter.unusedVariables false
set_option linter.unusedSimpArgs false

set_option maxHeartbeats 4000000 in
set_option maxRecDepth 20000 in
theorem reachC (F : Nat) (nv lv : Value) (N : List Pn) (G : List Lab) (root r : Nat) (x : Nat × Nat) (w : World) (h : Fs w F nv lv (N.map mk0)) (hw : Gw N G) (hr0 : r ≠ 0) (hr : G[root]? = some (r, [])) (hx : Okx x) (hN : N.length ≤ 16777216) :
    Calls Tryz.prog 102 #[.pointer (some ⟨F, 0, none⟩), .int .i64 (root : Int), .agg #[.int .u32 (x.1), .int .i64 (x.2)]] w fun e w' => ∃ (N' : List Pn) (G' : List Lab) (t : Nat), e = .returned (.int .i64 (t : Int)) ∧ Rg N G r (pp x) N' G' t ∧ ∃ nv' : Value, Fs w' F nv' lv (N'.map mk0) ∧ Fm w w' F nv lv nv' lv := by
  obtain ⟨hx1, hx2, _⟩ := hx
  obtain ⟨a, n⟩ := x
  simp only at hx1 hx2
  have Hpp : Hid (pp (a, n) = pth a n) := rfl
  obtain ⟨w0, hw0⟩ : ∃ w0, w0 = w.alloc (.cells #[.int .u32 (a : Int), .int .i64 (n : Int)] 58) := ⟨_, rfl⟩
  have HB0 : Below w.heap.size w w0 := by rw [hw0]; exact (Below.refl _ _).alloc (Nat.le_refl _) _
  have HF0 : Hid (Fs w0 F nv lv (N.map mk0)) := h.on HB0
  have HK0 : Hid (Kf w0 F nv lv w.heap.size (.cells #[.int .u32 (a : Int), .int .i64 (n : Int)] 58)) := by rw [hw0]; exact Kf.new h _
  have HM0 : Hid (Fm w w0 F nv lv nv lv) := Fm.of_below HB0
  have HR0 : Hid (Rg N G r (pth a 0) N G root) := Rg.nil hw hr
  have HN : Hid (N.length ≤ 16777216) := hN
  have Hr0 : Hid (r ≠ 0) := hr0
  have HW : Hid (Gw N G) := hw
  have z1 : w0.cell? ⟨w.heap.size, 1, none⟩ = some (.int .i64 (n : Int)) := blk_cell HK0.out.1 rfl
  have hw0s : w.alloc (.cells #[.int .u32 (a : Int), .int .i64 (n : Int)] 58) = w0 := hw0.symm
  clear hw0 HB0 h hw hr hN hr0
  have hn0 : (n : Int) ≤ 32 := by omega
  go_enter Tryz.func102, Tryz.ntmps102
  go_wp2_with (fail)
  try simp only [hw0s]
  clear hw0s z1
  go_loopw [7, 15] (fun va vi wr => ∃ (k t : Nat) (N1 : List Pn) (G1 : List Lab) (nv1 : Value), k ≤ n ∧ va = .int .i64 (t : Int) ∧ vi = .int .i64 (k : Int) ∧ Hid (Rg N G r (pth a k) N1 G1 t) ∧ Hid (Fs wr F nv1 lv (N1.map mk0)) ∧ Hid (Fm w wr F nv lv nv1 lv) ∧ Hid (Kf wr F nv1 lv w.heap.size (.cells #[.int .u32 (a : Int), .int .i64 (n : Int)] 58))) (fun _ vi _ => n - (intOf vi).toNat)
  case atStart => exact ⟨0, root, N, G, nv, Nat.zero_le _, rfl, rfl, HR0, HF0, HM0, HK0⟩
  case round =>
    obtain ⟨k, t, N1, G1, nv1, hk, rfl, rfl, HR, HF, HM, HK⟩ := hrel
    by_cases hlt : k < n
    · have hlti : (k : Int) < (n : Int) := by omega
      have z0 : wr.cell? ⟨w.heap.size, 0, none⟩ = some (.int .u32 (a : Int)) := blk_cell HK.out.1 rfl
      have hA := atBC a k wr hx1 (by omega)
      have hbt : btv a k = Pf.tb a k := if_pos (by omega)
      have ht2 := btv_lt a k
      rw [hbt] at hA ht2
      have Hs : Hid (pth a (k + 1) = pth a k ++ [Pf.tb a k]) := pth_succ a k
      have Hql : Hid ((pth a k).length < 32) := by show _ < _; rw [pth_len]; omega
      obtain ⟨xt, hxt⟩ := HR.out.gw.wf.node HR.out.rch.here
      have Hxt : Hid (N1[t]? = some xt) := hxt
      have htl : t < N1.length := pn_lt hxt
      have HN1 : Hid (N1.length ≤ 16777216 + 32) := by
        have h1 := HR.out.rch.few; have h2 := HR.out.gw.wf.len; have h3 := HN.out; have h4 := HW.out.wf.len; have h5 := pth_len a k
        show _ ≤ _; omega
      obtain ⟨g, cap, rfl, hcap, c0, c1, c2, c3, hfz, hxe⟩ := HF.out.nod.cells (map_at0 hxt)
      rw [len_map0] at hcap HF HM HK
      obtain ⟨F0, hF0⟩ := blk2 HF.out.blk
      obtain ⟨m, hm⟩ : ∃ m, m = N1.length := ⟨_, rfl⟩
      have Hm : Hid (m = N1.length) := hm
      rw [← hm] at htl hcap F0 HF HM HK
      have htm : (t : Int) < (m : Int) := by omega
      have hmb : (m : Int) ≤ 16777216 + 32 := by have := HN1.out; omega
      clear hxt hxe hbt hk hm
      try simp only [mk0] at c0 c1 c2 c3
      rcases (show Pf.tb a k = 0 ∨ Pf.tb a k = 1 by omega) with ht | ht
      · rw [ht] at hA Hs
        by_cases h0 : xt.a = 0
        · have Hmk := HR.out.make Hr0.out Hxt.out (u := 0) (by decide) h0 Hql.out
          have Hmk2 : Hid (Rg N G r (pth a (k + 1)) ((N1 ++ [pz]).set t (xt.put 0 N1.length)) (G1 ++ [(r, pth a k ++ [0])]) N1.length) := by rw [← Hs.out] at Hmk; rw [← Hs.out]; exact Hmk
          have hG := growC F _ lv (N1.map mk0) wr HF.out (by rw [len_map0]; have := HN1.out; omega)
          rw [len_map0, ← Hm.out] at hG
          have h0' : ((xt.a : Int) == 0) = true := by rw [h0]; rfl
          have hxa : (xt.a : Int) = 0 := by omega
          clear Hmk
          go_wp2_with (first | (go_at_call 55; refine hA.mono ?_; rintro e w4 ⟨er, rfl, hw4⟩; obtain rfl := hw4.symm; clear hw4) | (go_at_call 103; fail))
          refine hG.mono ?_
          rintro e w4 ⟨rfl, nv4, hf4, hm4⟩
          have HF4 : Hid (Fs w4 F nv4 lv ((N1 ++ [pz]).map mk0)) := by rw [List.map_append]; exact hf4
          have HM4 : Hid (Fm w w4 F nv lv nv4 lv) := HM.out.trans hm4
          have HK4 : Hid (Kf w4 F nv4 lv w.heap.size (.cells #[.int .u32 (a : Int), .int .i64 (n : Int)] 58)) := HK.out.moved hm4
          have hxt4 : (N1 ++ [pz])[t]? = some xt := pn_app.2 (.inl Hxt.out)
          obtain ⟨g4, cap4, rfl, hcap4, d0, d1, d2, d3, hfz4, hxe4⟩ := HF4.out.nod.cells (map_at0 hxt4)
          rw [len_map0] at hcap4 HF4 HM4 HK4 hf4
          obtain ⟨F4, _⟩ := blk2 hf4.blk
          have hset := HF4.out.cell0 t 0 xt hxt4 (by decide) (xt.put 0 N1.length) (.int .i64 (m : Int)) (by rw [Hm.out]; exact enc_put xt 0 _ (by simp))
          simp only [Nat.add_zero] at hset
          have HF5 : Hid (Fs (w4.setCell ⟨g4, t * 4, none⟩ (.int .i64 (m : Int))) F _ lv (((N1 ++ [pz]).set t (xt.put 0 N1.length)).map mk0)) := hset.1
          have HM5 : Hid (Fm w (w4.setCell ⟨g4, t * 4, none⟩ (.int .i64 (m : Int))) F nv lv _ lv) := HM4.out.trans hset.2
          have HK5 : Hid (Kf (w4.setCell ⟨g4, t * 4, none⟩ (.int .i64 (m : Int))) F _ lv w.heap.size (.cells #[.int .u32 (a : Int), .int .i64 (n : Int)] 58)) := HK4.out.moved hset.2
          obtain ⟨F5, _⟩ := blk2 hset.1.blk
          have hl4 : (N1 ++ [pz]).length = m + 1 := by rw [List.length_append, Hm.out]; rfl
          rw [hl4] at F4 F5 hcap4
          rw [← Hm.out] at Hmk2
          have hz := hfz4 (t * 4)
          have htm1 : (t : Int) < (m : Int) + 1 := by omega
          try simp only [mk0] at d0 d1 d2 d3
          clear hset hxe4 hxt4 hf4 hm4 hG hl4 HF4 HM4 HK4 hA z0 F0 hF0 c0 c1 c2 c3 hfz
          go_wp2_with (fail)
          go_roundw
          case rel => exact ⟨k + 1, m, _, _, _, by omega, rfl, by go_num, Hmk2, by have := HF5.out; rw [← Hm.out] at this; exact this, HM5, HK5⟩
          case measure => simp [intOf]; omega
        · have Hgo : Hid (Rg N G r (pth a (k + 1)) N1 G1 xt.a) := by
            have := HR.out.go Hxt.out (u := 0) (by decide) h0
            rw [← Hs.out] at this; exact this
          have h0' : ((xt.a : Int) == 0) = false := by rw [beq_eq_false_iff_ne]; omega
          go_wp2_with (go_at_call 55; refine hA.mono ?_; rintro e w4 ⟨er, rfl, hw4⟩; obtain rfl := hw4.symm; clear hw4)
          go_roundw
          case rel => exact ⟨k + 1, xt.a, N1, G1, _, by omega, rfl, by go_num, Hgo, HF, HM, HK⟩
          case measure => simp [intOf]; omega
      · rw [ht] at hA Hs
        by_cases h0 : xt.b = 0
        · have Hmk := HR.out.make Hr0.out Hxt.out (u := 1) (by decide) h0 Hql.out
          have Hmk2 : Hid (Rg N G r (pth a (k + 1)) ((N1 ++ [pz]).set t (xt.put 1 N1.length)) (G1 ++ [(r, pth a k ++ [1])]) N1.length) := by rw [← Hs.out] at Hmk; rw [← Hs.out]; exact Hmk
          have hG := growC F _ lv (N1.map mk0) wr HF.out (by rw [len_map0]; have := HN1.out; omega)
          rw [len_map0, ← Hm.out] at hG
          have h0' : ((xt.b : Int) == 0) = true := by rw [h0]; rfl
          have hxa : (xt.b : Int) = 0 := by omega
          clear Hmk
          go_wp2_with (first | (go_at_call 55; refine hA.mono ?_; rintro e w4 ⟨er, rfl, hw4⟩; obtain rfl := hw4.symm; clear hw4) | (go_at_call 103; fail))
          refine hG.mono ?_
          rintro e w4 ⟨rfl, nv4, hf4, hm4⟩
          have HF4 : Hid (Fs w4 F nv4 lv ((N1 ++ [pz]).map mk0)) := by rw [List.map_append]; exact hf4
          have HM4 : Hid (Fm w w4 F nv lv nv4 lv) := HM.out.trans hm4
          have HK4 : Hid (Kf w4 F nv4 lv w.heap.size (.cells #[.int .u32 (a : Int), .int .i64 (n : Int)] 58)) := HK.out.moved hm4
          have hxt4 : (N1 ++ [pz])[t]? = some xt := pn_app.2 (.inl Hxt.out)
          obtain ⟨g4, cap4, rfl, hcap4, d0, d1, d2, d3, hfz4, hxe4⟩ := HF4.out.nod.cells (map_at0 hxt4)
          rw [len_map0] at hcap4 HF4 HM4 HK4 hf4
          obtain ⟨F4, _⟩ := blk2 hf4.blk
          have hset := HF4.out.cell0 t 1 xt hxt4 (by decide) (xt.put 1 N1.length) (.int .i64 (m : Int)) (by rw [Hm.out]; exact enc_put xt 1 _ (by simp))
          have HF5 : Hid (Fs (w4.setCell ⟨g4, t * 4 + 1, none⟩ (.int .i64 (m : Int))) F _ lv (((N1 ++ [pz]).set t (xt.put 1 N1.length)).map mk0)) := hset.1
          have HM5 : Hid (Fm w (w4.setCell ⟨g4, t * 4 + 1, none⟩ (.int .i64 (m : Int))) F nv lv _ lv) := HM4.out.trans hset.2
          have HK5 : Hid (Kf (w4.setCell ⟨g4, t * 4 + 1, none⟩ (.int .i64 (m : Int))) F _ lv w.heap.size (.cells #[.int .u32 (a : Int), .int .i64 (n : Int)] 58)) := HK4.out.moved hset.2
          obtain ⟨F5, _⟩ := blk2 hset.1.blk
          have hl4 : (N1 ++ [pz]).length = m + 1 := by rw [List.length_append, Hm.out]; rfl
          rw [hl4] at F4 F5 hcap4
          rw [← Hm.out] at Hmk2
          have hz := hfz4 (t * 4 + 1)
          have htm1 : (t : Int) < (m : Int) + 1 := by omega
          try simp only [mk0] at d0 d1 d2 d3
          clear hset hxe4 hxt4 hf4 hm4 hG hl4 HF4 HM4 HK4 hA z0 F0 hF0 c0 c1 c2 c3 hfz
          go_wp2_with (fail)
          go_roundw
          case rel => exact ⟨k + 1, m, _, _, _, by omega, rfl, by go_num, Hmk2, by have := HF5.out; rw [← Hm.out] at this; exact this, HM5, HK5⟩
          case measure => simp [intOf]; omega
        · have Hgo : Hid (Rg N G r (pth a (k + 1)) N1 G1 xt.b) := by
            have := HR.out.go Hxt.out (u := 1) (by decide) h0
            rw [← Hs.out] at this; exact this
          have h0' : ((xt.b : Int) == 0) = false := by rw [beq_eq_false_iff_ne]; omega
          go_wp2_with (go_at_call 55; refine hA.mono ?_; rintro e w4 ⟨er, rfl, hw4⟩; obtain rfl := hw4.symm; clear hw4)
          go_roundw
          case rel => exact ⟨k + 1, xt.b, N1, G1, _, by omega, rfl, by go_num, Hgo, HF, HM, HK⟩
          case measure => simp [intOf]; omega
    · obtain rfl : k = n := by omega
      have hni : ¬ (k : Int) < (k : Int) := by omega
      go_wp2
      go_ret
      exact ⟨N1, G1, t, rfl, HR.out, nv1, HF.out, HM.out⟩
end Go.Proofs.YtgidohnikggjfaaGreat
