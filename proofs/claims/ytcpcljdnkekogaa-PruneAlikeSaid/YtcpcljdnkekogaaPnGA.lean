/-
  PnGA: PnU PnF PnG PnR, one behind the other (tools/merge.py).
-/
import Derived.Test.YtcpcljdnkekogaaPnPl
import Derived.Test.YtcpcljdnkekogaaTbV
import Derived.Test.YtcpcljdnkekogaaNsI
import Derived.RegionTactic
import Derived.BigRegion
/-
  Rows of prune's nodes. Written by tools/mkPnU.py, after the rows of rules.
-/
namespace Go.Proofs.Ytcpcljdnkekogaa
open Go.RowKit
set_option linter.unusedVariables false
set_option linter.unusedSimpArgs false

def encN (p : Pn) : List Value := [.int .i64 (p.a : Int), .int .i64 (p.b : Int), .int .i64 (p.c : Int)]
def flatN : List (Pn) → List Value
  | [] => []
  | p :: l => encN p ++ flatN l
theorem flatN_length (l : List (Pn)) : (flatN l).length = l.length * 3 := by
  induction l with
  | nil => rfl
  | cons p l ih => simp only [flatN, encN, List.length_append, List.length_cons, List.length_nil, ih]; omega
theorem flatN_append (l k : List (Pn)) : flatN (l ++ k) = flatN l ++ flatN k := by
  induction l with
  | nil => rfl
  | cons p l ih => simp only [flatN, List.cons_append, ih, List.append_assoc]
theorem flatN_one (l : List (Pn)) : ∀ u ∈ flatN l, u.oneCell' = true := by
  induction l with
  | nil => intro u hu; cases hu
  | cons p l ih =>
    intro u hu
    simp only [flatN, List.mem_append] at hu
    rcases hu with hu | hu
    · simp only [encN, List.mem_cons, List.not_mem_nil, or_false] at hu
      rcases hu with rfl | rfl | rfl <;> rfl
    · exact ih u hu
theorem flatN_at : ∀ (l : List (Pn)) (i : Nat) (h : i < l.length) (j : Nat) (hj : j < 3), (flatN l)[i * 3 + j]? = (encN (l[i]'h))[j]?
  | p :: l, 0, _, j, hj => by
    rw [Nat.zero_mul, Nat.zero_add]
    exact List.getElem?_append_left (by simp [encN]; omega)
  | p :: l, i + 1, h, j, hj => by
    have := flatN_at l i (by simpa using h) j hj
    show (encN p ++ flatN l)[(i + 1) * 3 + j]? = _
    rw [List.getElem?_append_right (by simp [encN]; omega), show (i + 1) * 3 + j - (encN p).length = i * 3 + j by simp [encN]; omega]
    exact this
theorem infoN : (Try.prog.info? 115).map (fun i => (i.zero, i.size, i.bytes)) = some (some (.agg #[.int .i64 0, .int .i64 0, .int .i64 0]), 3, 24) := by kernel_rfl
/-- The row v of w holds the list. -/
def RowN (w : World) (base : Nat) (v : Value) (l : List (Pn)) : Prop := w.ownsRow base 115 3 v l.length (flatN l)
theorem RowN.base {w : World} {b b' : Nat} {v : Value} {l : List (Pn)} (h : RowN w b v l) (hb : b' ≤ b) : RowN w b' v l := by
  refine ⟨h.1, ?_⟩
  rcases h.2 with h2 | ⟨g, cap, cur, hv, hg, r⟩
  · exact .inl h2
  · exact .inr ⟨g, cap, cur, hv, by omega, r⟩
theorem RowN.on {w w1 : World} {b : Nat} {v : Value} {l : List (Pn)} (h : RowN w b v l) (hb : Below w.heap.size w w1) : RowN w1 b v l := by
  refine ⟨h.1, ?_⟩
  rcases h.2 with h2 | ⟨g, cap, cur, hv, hg, hh, r⟩
  · exact .inl h2
  · exact .inr ⟨g, cap, cur, hv, hg, by rw [hb.block g (Array.getElem?_eq_some_iff.1 hh).1]; exact hh, r⟩
theorem RowN.alloc {w : World} {b : Nat} {v : Value} {l : List (Pn)} (h : RowN w b v l) (o : Obj) : RowN (w.alloc o) b v l := World.ownsRow.alloc h o
theorem RowN.drew {w : World} {b : Nat} {v : Value} {l : List (Pn)} (h : RowN w b v l) : RowN w.drew b v l := h
theorem RowN.nil (w : World) (b : Nat) : RowN w b (.slice none 0 0) [] := World.ownsRow_nil w b _ _
theorem RowN.one (w : World) (b : Nat) (p : Pn) (hb : b ≤ w.heap.size) : RowN (w.alloc (.cells #[.int .i64 (p.a : Int), .int .i64 (p.b : Int), .int .i64 (p.c : Int)] 115)) b (.slice (some ⟨w.heap.size, 0, none⟩) 1 1) [p] :=
  World.ownsRow_lit w #[.int .i64 (p.a : Int), .int .i64 (p.b : Int), .int .i64 (p.c : Int)] 1 hb (by simp [maxLen]) rfl
theorem RowN.lt {w : World} {b : Nat} {v : Value} {l : List (Pn)} (h : RowN w b v l) : ∀ k, v.ownBlock = some k → b ≤ k ∧ k < w.heap.size := World.ownsRow.lt h
theorem RowN.put {w : World} {b : Nat} {v : Value} {l : List (Pn)} (h : RowN w b v l) {g i : Nat} (hg : some g ≠ v.ownBlock) (u : Value) : RowN (w.setCell ⟨g, i, none⟩ u) b v l := by
  refine ⟨h.1, ?_⟩
  rcases h.2 with h2 | ⟨g', cap, cur, hv, hb, hh, r⟩
  · exact .inl h2
  · exact .inr ⟨g', cap, cur, hv, hb, by rw [Below.heap_setCell _ _ _ _ (by intro e; apply hg; rw [hv]; simp [Value.ownBlock, e])]; exact hh, r⟩
/-- One owned row behind another. -/
theorem run_appendN (w : World) (ty : TypeId) (b : Nat) (v : Value) (l : List (Pn)) (h : RowN w b v l) (c : Nat) (u : Value) (k : List (Pn)) (hk : RowN w c u k)
    (hb : b ≤ w.heap.size) (hsz : l.length + k.length ≤ 4294967296) :
    ∃ v' w', (Builtin.append_ #[69, 69] ty #[v, u]).run Try.prog w = .ok v' w' ∧ RowN w' b v' (l ++ k) ∧ w.grownBy w' v.ownBlock := by
  obtain ⟨i0, hi, hz0, hz1, hz2⟩ := info_parts infoN
  have hmx : l.length + k.length ≤ maxLen := by unfold maxLen; omega
  rcases hk.2 with ⟨rfl, hk0⟩ | ⟨g, cap, cur, rfl, hg, hh, hnc, hcm, hcs, htk⟩
  · have hr := run_append_owned_none (P := Try.prog) (w := w) b 69 ty 115 i0 3 Try.underlying69 hi v l.length (flatN l) h
    refine ⟨v, w, hr, ?_, ⟨rfl, rfl, rfl, Nat.le_refl _, fun _ _ _ => rfl⟩⟩
    rw [List.eq_nil_of_length_eq_zero hk0, List.append_nil]
    exact h
  · have hn := World.ownsRow.cells hk (g := g) rfl
    obtain ⟨v', w', hr, ho, hgr, _⟩ := run_append_own (P := Try.prog) w b 69 ty 115 i0 (.agg #[.int .i64 0, .int .i64 0, .int .i64 0]) 3 24 Try.underlying69 hi hz0 hz1 hz2 rfl (by decide) v l.length (flatN l) h ⟨g, 0, none⟩ k.length cap (flatN k) (flatN_length k) hn (flatN_one k) hmx (by omega) hb
    refine ⟨v', w', hr, ?_, hgr⟩
    unfold RowN
    rw [List.length_append, flatN_append]
    exact ho
theorem wp_appendN {o : Oper} {a : Act} {w : World} {K : Act → World → Prop} {Q : Exit → Act → World → Prop} (s x : Operand)
    (ho : o.op = .call { callee := .builtin .append, args := #[s, x], argTypes := #[69, 69] })
    (b : Nat) (v : Value) (l : List (Pn)) (hs : a.eval s = v) (h : RowN w b v l) (c : Nat) (u : Value) (k : List (Pn)) (hx : a.eval x = u) (hk : RowN w c u k)
    (hb : b ≤ w.heap.size) (hsz : l.length + k.length ≤ 4294967296)
    (hK : ∀ v' w', RowN w' b v' (l ++ k) → w.grownBy w' v.ownBlock → K (a.put o.dst v') w') : o.wp Try.prog a w K Q := by
  obtain ⟨v', w', hr, h2, h3⟩ := run_appendN w o.type b v l h c u k hk hb hsz
  unfold Oper.wp execOp
  simp only [ho, resolve, invoke, builtin, Sem.run_bind, Sem.run_pure, Result.andThen_ok, List.map_toArray, List.map_cons, List.map_nil, hs, hx, hr]
  exact hK v' w' h2 h3
theorem wpList_appendN {ops : Array Oper} {rest : List Oper} {o : Oper} {a : Act} {w : World} {Q : Exit → Act → World → Prop} (hgd : o.guard = none) (s x : Operand)
    (ho : o.op = .call { callee := .builtin .append, args := #[s, x], argTypes := #[69, 69] })
    (b : Nat) (v : Value) (l : List (Pn)) (hs : a.eval s = v) (h : RowN w b v l) (c : Nat) (u : Value) (k : List (Pn)) (hx : a.eval x = u) (hk : RowN w c u k)
    (hb : b ≤ w.heap.size) (hsz : l.length + k.length ≤ 4294967296)
    (hK : ∀ v' w', RowN w' b v' (l ++ k) → w.grownBy w' v.ownBlock → wpList Try.prog ops Q rest (a.put o.dst v') w') : wpList Try.prog ops Q (o :: rest) a w :=
  wpList_plain hgd fun _ hK' => wp_appendN s x ho b v l hs h c u k hx hk hb hsz fun v' w' h2 h3 => hK' _ _ (hK v' w' h2 h3)
theorem bel_grownN {B : Nat} {a w w' : World} {b : Nat} {v : Value} {l : List (Pn)} (h : Below B a w) (hr : RowN w b v l) (hg : w.grownBy w' v.ownBlock) (hB : B ≤ w.heap.size) (hb : B ≤ b) : Below B a w' :=
  h.grown hg hB fun k hk => Nat.le_trans hb (hr.lt k hk).1
/-- What a row looks like. -/
theorem RowN.form {w : World} {b : Nat} {v : Value} {l : List (Pn)} (h : RowN w b v l) :
    ∃ (ad : Option Addr) (cap : Nat), v = .slice ad l.length cap ∧ l.length ≤ cap ∧ (0 < l.length → ∃ g, ad = some ⟨g, 0, none⟩ ∧ b ≤ g ∧ g < w.heap.size ∧ ∀ k (hk : k < l.length) j, j < 3 → w.cell? ⟨g, k * 3 + j, none⟩ = (encN (l[k]'hk))[j]?) := by
  rcases h.2 with ⟨hv, hn⟩ | ⟨g, cap, cur, hv, hb, hg, hcap, r⟩
  · exact ⟨none, 0, by rw [hv, hn], by omega, fun h0 => by omega⟩
  · subst hv
    refine ⟨_, cap, rfl, hcap, fun _ => ⟨g, rfl, hb, (Array.getElem?_eq_some_iff.1 hg).1, fun k hk j hj => ?_⟩⟩
    have h' : w.ownsRow b 115 3 (.slice (some ⟨g, 0, none⟩) l.length cap) l.length (flatN l) := h
    rw [h'.cellAt (k * 3 + j) (by omega), flatN_at l k hk j hj]
theorem RowN.frozen {w : World} {b g cap n : Nat} {l : List (Pn)} (h : RowN w b (.slice (some ⟨g, 0, none⟩) n cap) l) (j : Nat) : w.frozen? ⟨g, j, none⟩ = false := by
  rcases h.2 with ⟨hv, _⟩ | ⟨g', cap', cur, hv, hb, hg, r⟩
  · cases hv
  · cases hv; simp [World.frozen?, hg]

/-- The slice v of w reads as the list of rules. -/
def SrcN (w : World) (v : Value) (l : List Pn) : Prop :=
  ∃ (ad : Option Addr) (cap : Nat), v = .slice ad l.length cap ∧ (l.length ≤ cap ∧ (ad = none → cap = 0)) ∧ (0 < l.length → ∃ g off, ad = some ⟨g, off, none⟩ ∧ ∀ k (hk : k < l.length) j, j < 3 → w.cell? ⟨g, off + (k * 3 + j), none⟩ = (encN (l[k]'hk))[j]?)
theorem encN_some (R : Pn) {j : Nat} (h : j < 3) : ∃ v, (encN R)[j]? = some v := ⟨(encN R)[j]'(by simp [encN]; omega), List.getElem?_eq_getElem _⟩
theorem SrcN.keep {w w1 : World} {v : Value} {l : List Pn} (h : SrcN w v l) (hb : Below w.heap.size w w1) : SrcN w1 v l := by
  obtain ⟨ad, cap, rfl, hc, h2⟩ := h
  refine ⟨ad, cap, rfl, hc, fun h0 => ?_⟩
  obtain ⟨g, off, rfl, h3⟩ := h2 h0
  exact ⟨g, off, rfl, fun k hk j hj => by
    have := h3 k hk j hj
    obtain ⟨u, hu⟩ := encN_some (l[k]'hk) hj
    rw [hb.cell (World.block_lt_of_cell? w _ (this.trans hu))]; exact this⟩
/-- A source whose block stays. -/
theorem SrcN.stay {w w1 : World} {v : Value} {l : List Pn} (h : SrcN w v l) (hb : ∀ k, v.ownBlock = some k → k < w.heap.size → w1.heap[k]? = w.heap[k]?) : SrcN w1 v l := by
  obtain ⟨ad, cap, rfl, hc, h2⟩ := h
  refine ⟨ad, cap, rfl, hc, fun h0 => ?_⟩
  obtain ⟨g, off, rfl, h3⟩ := h2 h0
  exact ⟨g, off, rfl, fun k hk j hj => by
    have := h3 k hk j hj
    obtain ⟨u, hu⟩ := encN_some (l[k]'hk) hj
    have hlt := World.block_lt_of_cell? w _ (this.trans hu)
    rw [World.cell?_of_block (w := w) (a := ⟨g, off + (k * 3 + j), none⟩) (hb g rfl hlt)]; exact this⟩
theorem RowN.src {w : World} {b : Nat} {v : Value} {l : List Pn} (h : RowN w b v l) : SrcN w v l := by
  obtain ⟨ad, cap, hv, hc, h2⟩ := h.form
  refine ⟨ad, cap, hv, ⟨hc, fun e => ?_⟩, fun h0 => ?_⟩
  · subst e
    rcases h.2 with ⟨hv', _⟩ | ⟨g, cap', cur, hv', _⟩
    · rw [hv] at hv'; injection hv'
    · rw [hv] at hv'; cases hv'
  obtain ⟨g, e, _, _, h3⟩ := h2 h0
  exact ⟨g, 0, e, fun k hk j hj => by rw [Nat.zero_add]; exact h3 k hk j hj⟩
theorem SrcN.flat {w : World} {g off n cap : Nat} {l : List Pn} (h : SrcN w (.slice (some ⟨g, off, none⟩) n cap) l) : ∀ j u, (flatN l)[j]? = some u → w.cell? ((⟨g, off, none⟩ : Addr).add j) = some u := by
  intro j u hu
  obtain ⟨ad, c, e, hc, h2⟩ := h
  cases e
  have hj : j < (flatN l).length := (List.getElem?_eq_some_iff.1 hu).1
  rw [flatN_length] at hj
  obtain ⟨g', off', e', h3⟩ := h2 (by omega)
  cases e'
  have hk : j / 3 < l.length := by omega
  have hm : j % 3 < 3 := Nat.mod_lt _ (by decide)
  have e1 : j / 3 * 3 + j % 3 = j := by omega
  have h4 := flatN_at l (j / 3) hk (j % 3) hm
  rw [e1] at h4
  have h5 := h3 (j / 3) hk (j % 3) hm
  rw [e1] at h5
  rw [Addr.add_lit, h5, ← h4]
  exact hu
theorem flatN_take (l : List Pn) (p : Nat) : (flatN l).take (p * 3) = flatN (l.take p) := by
  by_cases h : p ≤ l.length
  · have e := flatN_append (l.take p) (l.drop p)
    rw [List.take_append_drop] at e
    rw [e]
    have hl : (flatN (l.take p)).length = p * 3 := by rw [flatN_length, List.length_take]; congr 1; omega
    rw [List.take_append_of_le_length (by omega), List.take_of_length_le (by omega)]
  · rw [List.take_of_length_le (by rw [flatN_length]; omega), List.take_of_length_le (by omega)]
theorem flatN_drop (l : List Pn) (p : Nat) : (flatN l).drop (p * 3) = flatN (l.drop p) := by
  by_cases h : p ≤ l.length
  · have e := flatN_append (l.take p) (l.drop p)
    rw [List.take_append_drop] at e
    rw [e]
    have hl : (flatN (l.take p)).length = p * 3 := by rw [flatN_length, List.length_take]; congr 1; omega
    rw [← hl, List.drop_left]
  · rw [List.drop_eq_nil_of_le (by rw [flatN_length]; omega), List.drop_eq_nil_of_le (by omega)]; rfl
/-- A row with something in it. -/
theorem RowN.some {w : World} {b : Nat} {v : Value} {l : List Pn} (h : RowN w b v l) (h0 : 0 < l.length) : ∃ g cap, v = .slice (.some ⟨g, 0, none⟩) l.length cap ∧ l.length ≤ cap ∧ b ≤ g ∧ g < w.heap.size := by
  obtain ⟨ad, cap, hv, hc, h2⟩ := h.form
  obtain ⟨g, rfl, hb, hg, _⟩ := h2 h0
  exact ⟨g, cap, hv, hc, hb, hg⟩
/-- Rules laid over a row from a place on. -/
theorem RowN.over {w w' : World} {b g n cap : Nat} {l : List Pn} (h : RowN w b (.slice (.some ⟨g, 0, none⟩) n cap) l) (p : Nat) (k : List Pn) (hf : p + k.length ≤ n)
    (hw : ∀ cur, w.heap[g]? = .some (.cells cur 115 (0, 0)) → w'.heap[g]? = .some (.cells (cur.toList.take (p * 3) ++ flatN k ++ cur.toList.drop (p * 3 + (flatN k).length)).toArray 115 (0, 0))) :
    RowN w' b (.slice (.some ⟨g, 0, none⟩) n cap) (l.take p ++ k ++ l.drop (p + k.length)) := by
  have hn : l.length = n := by
    rcases h.2 with ⟨hv, _⟩ | ⟨g', cap', cur, hv, _⟩
    · cases hv
    · cases hv; rfl
  subst hn
  have hlen : (l.take p ++ k ++ l.drop (p + k.length)).length = l.length := by simp; omega
  rcases h.2 with ⟨hv, _⟩ | ⟨g', cap', cur, hv, hb, hg, hc, hm, hs, ht⟩
  · cases hv
  · cases hv
    refine ⟨by rw [hlen, flatN_length, hlen], .inr ⟨g, cap, _, by rw [hlen], hb, hw cur hg, by rw [hlen]; exact hc, hm, ?_, ?_⟩⟩
    · rw [flatN_length]
      simp only [List.size_toArray, List.length_append, List.length_take, List.length_drop, Array.length_toList, flatN_length]
      omega
    · rw [hlen]
      have e1 : cur.toList.take (p * 3) = flatN (l.take p) := by
        rw [← flatN_take, ← ht, List.take_take]; congr 1; omega
      have e2 : (cur.toList.drop (p * 3 + (flatN k).length)).take (l.length * 3 - (p * 3 + (flatN k).length)) = flatN (l.drop (p + k.length)) := by
        rw [← flatN_drop, ← ht, List.drop_take, flatN_length]
        rw [show p * 3 + k.length * 3 = (p + k.length) * 3 by omega]
      have l1 : (flatN (l.take p)).length = p * 3 := by rw [flatN_length, List.length_take]; omega
      rw [e1, flatN_append, flatN_append, ← e2]
      have l2 := flatN_length k
      rw [List.take_append, List.take_of_length_le (by rw [List.length_append, l1, l2]; omega)]
      congr 2
      rw [List.length_append, l1]
/-- 'append' of a source to an owned row; where the new row lies. -/
theorem run_appendSN (w : World) (ty : TypeId) (b : Nat) (v : Value) (l : List Pn) (h : RowN w b v l) (u : Value) (k : List Pn) (hk : SrcN w u k) (hb : b ≤ w.heap.size) (hsz : l.length + k.length ≤ 4294967296) :
    ∃ v' w', (Builtin.append_ #[69, 69] ty #[v, u]).run Try.prog w = .ok v' w' ∧ RowN w' b v' (l ++ k) ∧ w.grownBy w' v.ownBlock ∧ (v'.ownBlock = v.ownBlock ∨ v'.ownBlock = .some w.heap.size) := by
  obtain ⟨i0, hi, hz0, hz1, hz2⟩ := info_parts infoN
  have hmx : l.length + k.length ≤ maxLen := by unfold maxLen; omega
  have hk' := hk
  obtain ⟨ad, c, rfl, hc, h2⟩ := hk
  cases ad with
  | none =>
    have h0 : k.length = 0 := by have := hc.1; have := hc.2 rfl; omega
    have hc0 : c = 0 := hc.2 rfl
    have hr := run_append_owned_none (P := Try.prog) (w := w) b 69 ty 115 i0 3 Try.underlying69 hi v l.length (flatN l) h
    rw [h0, hc0]
    refine ⟨v, w, hr, ?_, ⟨rfl, rfl, rfl, Nat.le_refl _, fun _ _ _ => rfl⟩, .inl rfl⟩
    rw [List.eq_nil_of_length_eq_zero h0, List.append_nil]
    exact h
  | some a =>
    have hfl : ∀ j x, (flatN k)[j]? = .some x → w.cell? (a.add j) = .some x := by
      by_cases h0 : 0 < k.length
      · obtain ⟨g, off, e, _⟩ := h2 h0
        cases e
        exact hk'.flat
      · rw [List.eq_nil_of_length_eq_zero (by omega : k.length = 0)]
        intro j x hx
        simp [flatN] at hx
    obtain ⟨v', w', hr, ho, hgr, _, hat⟩ := run_append_own_at (P := Try.prog) w b 69 ty 115 i0 (.agg #[.int .i64 0, .int .i64 0, .int .i64 0]) 3 24 Try.underlying69 hi hz0 hz1 hz2 rfl (by decide) v l.length (flatN l) h a k.length c (flatN k) (flatN_length k) hfl (flatN_one k) hmx (by omega) hb
    refine ⟨v', w', hr, ?_, hgr, hat⟩
    unfold RowN
    rw [List.length_append, flatN_append]
    exact ho
theorem wpList_appendSN {ops : Array Oper} {rest : List Oper} {o : Oper} {a : Act} {w : World} {Q : Exit → Act → World → Prop} (hgd : o.guard = none) (s x : Operand)
    (ho : o.op = .call { callee := .builtin .append, args := #[s, x], argTypes := #[69, 69] })
    (b : Nat) (v : Value) (l : List Pn) (hs : a.eval s = v) (h : RowN w b v l) (u : Value) (k : List Pn) (hx : a.eval x = u) (hk : SrcN w u k)
    (hb : b ≤ w.heap.size) (hsz : l.length + k.length ≤ 4294967296)
    (hK : ∀ v' w', RowN w' b v' (l ++ k) → w.grownBy w' v.ownBlock → (v'.ownBlock = v.ownBlock ∨ v'.ownBlock = .some w.heap.size) → wpList Try.prog ops Q rest (a.put o.dst v') w') : wpList Try.prog ops Q (o :: rest) a w := by
  refine wpList_plain hgd fun K hK' => ?_
  obtain ⟨v', w', hr, h2, h3, h4⟩ := run_appendSN w o.type b v l h u k hk hb hsz
  unfold Oper.wp execOp
  simp only [ho, resolve, invoke, builtin, Sem.run_bind, Sem.run_pure, Result.andThen_ok, List.map_toArray, List.map_cons, List.map_nil, hs, hx, hr]
  exact hK' _ _ (hK v' w' h2 h3 h4)
/-- A rule stored into an owned row. -/
theorem wp_storeN {o : Oper} {a : Act} {w : World} {K : Act → World → Prop} {Q : Exit → Act → World → Prop} (x y : Operand) (ho : o.op = .store 115 x y)
    (b g n cap : Nat) (l : List Pn) (hr : RowN w b (.slice (some ⟨g, 0, none⟩) n cap) l) (p : Nat) (hp : p < n) (R : Pn) (hx : a.eval x = .pointer (some ⟨g, p * 3, none⟩)) (hy : a.eval y = .agg #[.int .i64 (R.a : Int), .int .i64 (R.b : Int), .int .i64 (R.c : Int)])
    (hK : ∀ w', RowN w' b (.slice (some ⟨g, 0, none⟩) n cap) (l.take p ++ [R] ++ l.drop (p + [R].length)) → w.grownBy w' (some g) → K (a.put o.dst undef) w') : o.wp Try.prog a w K Q := by
  obtain ⟨cur, hg, hcs⟩ : ∃ cur, w.heap[g]? = some (.cells cur 115 (0, 0)) ∧ cur.size = cap * 3 ∧ n ≤ cap := by
    rcases hr.2 with ⟨hv, _⟩ | ⟨g', cap', cur, hv, hb, hg, hc, hm, hs, ht⟩
    · cases hv
    · cases hv; exact ⟨cur, hg, hs, by omega⟩
  refine wp_store_blk 115 x y ho g (p * 3) (encN R).toArray (cur.toList.take (p * 3) ++ encN R ++ cur.toList.drop (p * 3 + (encN R).toArray.size)).toArray hx hy 115 cur hg (by simp [encN]; omega) (by simp) (by kernel_rfl) (by simp [encN, Value.oneCell']) ?_
  intro w' h1 h2
  have hf : flatN [R] = encN R := by simp [flatN]
  refine hK w' (hr.over p [R] (by simp; omega) (fun cur' hg' => ?_)) ⟨h2.os, h2.tape, h2.output, Nat.le_of_eq h2.size.symm, fun k _ hk => h2.block k (fun e => hk (by rw [e]))⟩
  rw [hg] at hg'
  cases hg'
  rw [hf]
  simpa using h1

end Go.Proofs.Ytcpcljdnkekogaa
/-
  A forest in memory: its nodes, its lists; what a call that writes it leaves as it was.
-/
namespace Go.Proofs.Ytcpcljdnkekogaa
open Go.RowKit
set_option linter.unusedVariables false
set_option linter.unusedSimpArgs false

theorem run_appendI (w : World) (ty : TypeId) (b : Nat) (v : Value) (l : List Int) (h : RowI w b v l) (g n c : Nat) (k : List Int) (hk : SrcI w (.slice (some ⟨g, 0, none⟩) n c) k) (hc : ∀ j (hj : j < k.length), w.cell? ⟨g, j, none⟩ = some (.int .i64 (k[j]'hj))) (hb : b ≤ w.heap.size) (hsz : l.length + k.length ≤ 4294967296) :
    ∃ v' w', (Builtin.append_ #[23, 23] ty #[v, .slice (some ⟨g, 0, none⟩) n c]).run Try.prog w = .ok v' w' ∧ RowI w' b v' (l ++ k) ∧ w.grownBy w' v.ownBlock := by
  obtain ⟨i0, hi, hz0, hz1, hz2⟩ := info_parts infoI
  have hmx : l.length + k.length ≤ maxLen := by unfold maxLen; omega
  have hn : n = k.length := by obtain ⟨_, _, e, _⟩ := hk; injection e
  subst hn
  have hfl : ∀ j x, (eI k)[j]? = some x → w.cell? ((⟨g, 0, none⟩ : Addr).add j) = some x := by
    intro j x hx
    have hj : j < k.length := by have := (List.getElem?_eq_some_iff.1 hx).1; rwa [eI_len] at this
    rw [eI_at hj] at hx
    rw [Addr.add_lit, Nat.zero_add, hc j hj]; exact hx
  obtain ⟨v', w', hr, ho, hgr, _, hat⟩ := run_append_own_at (P := Try.prog) w b 23 ty 3 i0 (.int .i64 0) 1 8 Try.underlying23 hi hz0 hz1 hz2 rfl (by decide) v l.length (eI l) h ⟨g, 0, none⟩ k.length c (eI k) (by rw [eI_len]; omega) hfl (eI_one k) hmx (by omega) hb
  refine ⟨v', w', hr, ?_, hgr⟩
  unfold RowI
  rw [List.length_append, eI_app]
  exact ho
theorem wpList_appendI {ops : Array Oper} {rest : List Oper} {o : Oper} {a : Act} {w : World} {Q : Exit → Act → World → Prop} (hgd : o.guard = none) (s x : Operand)
    (ho : o.op = .call { callee := .builtin .append, args := #[s, x], argTypes := #[23, 23] })
    (b : Nat) (v : Value) (l : List Int) (hs : a.eval s = v) (h : RowI w b v l) (g : Nat) (y : Int) (hx : a.eval x = .slice (some ⟨g, 0, none⟩) 1 1) (hk : w.cell? ⟨g, 0, none⟩ = some (.int .i64 y))
    (hb : b ≤ w.heap.size) (hsz : l.length + 1 ≤ 4294967296)
    (hK : ∀ v' w', RowI w' b v' (l ++ [y]) → w.grownBy w' v.ownBlock → wpList Try.prog ops Q rest (a.put o.dst v') w') : wpList Try.prog ops Q (o :: rest) a w := by
  refine wpList_plain hgd fun K hK' => ?_
  have hcs : ∀ j (hj : j < [y].length), w.cell? ⟨g, j, none⟩ = some (.int .i64 ([y][j]'hj)) := fun j hj => by
    have : j = 0 := by simp at hj; exact hj
    subst this; exact hk
  obtain ⟨v', w', hr, h2, h3⟩ := run_appendI w o.type b v l h g 1 1 [y] ⟨_, _, rfl, fun _ => ⟨g, 0, rfl, fun k hk2 => by rw [Nat.zero_add]; exact hcs k hk2⟩⟩ hcs hb hsz
  unfold Oper.wp execOp
  simp only [ho, resolve, invoke, builtin, Sem.run_bind, Sem.run_pure, Result.andThen_ok, List.map_toArray, List.map_cons, List.map_nil, hs, hx, hr]
  exact hK' _ _ (hK v' w' h2 h3)

/-- A cell of a node is another. -/
theorem flatN_set : ∀ (l : List Pn) (i j : Nat) (y : Pn) (u : Value) (h : i < l.length), j < 3 → encN y = (encN (l[i]'h)).set j u → (flatN l).set (i * 3 + j) u = flatN (l.set i y)
  | [], i, j, y, u, h, _, _ => by simp at h
  | x :: l, 0, j, y, u, h, hj, e => by
    rw [List.set_cons_zero, Nat.zero_mul, Nat.zero_add]
    show (encN x ++ flatN l).set j u = encN y ++ flatN l
    rw [List.set_append_left _ _ (by simp [encN]; omega), e]; rfl
  | x :: l, i + 1, j, y, u, h, hj, e => by
    rw [List.set_cons_succ]
    show (encN x ++ flatN l).set ((i + 1) * 3 + j) u = encN x ++ flatN (l.set i y)
    have hl : (encN x).length = 3 := by simp [encN]
    rw [List.set_append_right _ _ (by rw [hl]; omega), hl, show (i + 1) * 3 + j - 3 = i * 3 + j by omega]
    rw [flatN_set l i j y u (by simpa using h) hj (by simpa using e)]
theorem RowN.set {w : World} {b g n cap : Nat} {l : List Pn} (h : RowN w b (.slice (Option.some ⟨g, 0, none⟩) n cap) l) (i j : Nat) (hi : i < l.length) (hj : j < 3) (y : Pn) (u : Value) (e : encN y = (encN (l[i]'hi)).set j u) :
    RowN (w.setCell ⟨g, i * 3 + j, none⟩ u) b (.slice (Option.some ⟨g, 0, none⟩) n cap) (l.set i y) ∧ w.grownBy (w.setCell ⟨g, i * 3 + j, none⟩ u) (Option.some g) := by
  have hn : n = l.length := by obtain ⟨ad, c, e, _⟩ := h.form; injection e
  subst hn
  obtain ⟨a1, b1⟩ := World.ownsRow.stored h (i * 3 + j) u
  rw [flatN_set l i j y u hi hj e] at a1
  exact ⟨by unfold RowN; simpa using a1, b1⟩
theorem enc_put (x : Pn) (t k : Nat) (ht : t = 0 ∨ t = 1) : encN (x.put t k) = (encN x).set t (.int .i64 (k : Int)) := by
  rcases ht with rfl | rfl <;> rfl
theorem enc_bear (x : Pn) (k : Nat) : encN (x.bear k) = (encN x).set 2 (.int .i64 (k : Int)) := rfl
/-- A row of slices. -/
def RowL (w : World) (b : Nat) (v : Value) (vs : List Value) : Prop := w.ownsRow b 23 1 v vs.length vs
theorem infoL : (Try.prog.info? 23).map (fun i => (i.zero, i.size, i.bytes)) = some (some (.slice none 0 0), 1, 24) := by kernel_rfl
theorem RowL.on {w w1 : World} {b : Nat} {v : Value} {l : List Value} (h : RowL w b v l) (hb : Below w.heap.size w w1) : RowL w1 b v l := by
  refine ⟨h.1, ?_⟩
  rcases h.2 with h2 | ⟨g, cap, cur, hv, hg, hh, q⟩
  · exact .inl h2
  · exact .inr ⟨g, cap, cur, hv, hg, by rw [hb.block g (blk_lt hh)]; exact hh, q⟩
theorem RowL.stay {w w1 : World} {b : Nat} {v : Value} {l : List Value} (h : RowL w b v l) (hb : ∀ k, v.ownBlock = some k → w1.heap[k]? = w.heap[k]?) : RowL w1 b v l := by
  refine ⟨h.1, ?_⟩
  rcases h.2 with h2 | ⟨g, cap, cur, hv, hg, hh, q⟩
  · exact .inl h2
  · exact .inr ⟨g, cap, cur, hv, hg, by rw [hb g (by rw [hv]; rfl)]; exact hh, q⟩
theorem RowN.stay {w w1 : World} {b : Nat} {v : Value} {l : List Pn} (h : RowN w b v l) (hb : ∀ k, v.ownBlock = Option.some k → w1.heap[k]? = w.heap[k]?) : RowN w1 b v l := by
  refine ⟨h.1, ?_⟩
  rcases h.2 with h2 | ⟨g, cap, cur, hv, hg, hh, q⟩
  · exact .inl h2
  · exact .inr ⟨g, cap, cur, hv, hg, by rw [hb g (by rw [hv]; rfl)]; exact hh, q⟩
theorem RowL.lt {w : World} {b : Nat} {v : Value} {l : List Value} (h : RowL w b v l) : ∀ k, v.ownBlock = some k → b ≤ k ∧ k < w.heap.size := World.ownsRow.lt h
theorem RowL.form {w : World} {b : Nat} {v : Value} {l : List Value} (h : RowL w b v l) : ∃ (ad : Option Addr) (cap : Nat), v = .slice ad l.length cap ∧ l.length ≤ cap ∧
    (0 < l.length → ∃ g, ad = some ⟨g, 0, none⟩ ∧ g < w.heap.size ∧ ∀ k (hk : k < l.length), w.cell? ⟨g, k, none⟩ = some (l[k]'hk)) := by
  rcases h.2 with ⟨rfl, h0⟩ | ⟨g, cap, cur, rfl, hg, hh, h1, h2, h3, h4⟩
  · exact ⟨none, 0, by rw [h0], by omega, fun h => by omega⟩
  · refine ⟨some ⟨g, 0, none⟩, cap, rfl, h1, fun _ => ⟨g, rfl, blk_lt hh, fun k hk => blk_cell hh ?_⟩⟩
    have : (cur.toList.take (l.length * 1))[k]? = some l[k] := by rw [h4]; exact List.getElem?_eq_getElem hk
    rw [List.getElem?_take_of_lt (by omega)] at this
    simpa using this
theorem run_appendL (w : World) (ty : TypeId) (b : Nat) (v : Value) (l : List Value) (h : RowL w b v l) (g : Nat) (y : Value) (hy : y.oneCell' = true) (hk : w.cell? ⟨g, 0, none⟩ = some y) (hb : b ≤ w.heap.size) (hsz : l.length + 1 ≤ 4294967296) :
    ∃ v' w', (Builtin.append_ #[70, 70] ty #[v, .slice (some ⟨g, 0, none⟩) 1 1]).run Try.prog w = .ok v' w' ∧ RowL w' b v' (l ++ [y]) ∧ w.grownBy w' v.ownBlock ∧ (v'.ownBlock = v.ownBlock ∨ v'.ownBlock = .some w.heap.size) := by
  obtain ⟨i0, hi, hz0, hz1, hz2⟩ := info_parts infoL
  have hmx : l.length + 1 ≤ maxLen := by unfold maxLen; omega
  have hfl : ∀ j x, [y][j]? = some x → w.cell? ((⟨g, 0, none⟩ : Addr).add j) = some x := by
    intro j x hx
    have hj : j = 0 := by have := (List.getElem?_eq_some_iff.1 hx).1; simpa using this
    subst hj
    rw [Addr.add_lit, Nat.zero_add, hk]; simpa using hx
  obtain ⟨v', w', hr, ho, hgr, _, hat⟩ := run_append_own_at (P := Try.prog) w b 70 ty 23 i0 (.slice none 0 0) 1 24 Try.underlying70 hi hz0 hz1 hz2 rfl (by decide) v l.length l h ⟨g, 0, none⟩ 1 1 [y] (by simp) hfl (by simpa using hy) hmx (by omega) hb
  refine ⟨v', w', hr, ?_, hgr, hat⟩
  unfold RowL
  rw [List.length_append]
  exact ho
theorem wp_appendL {o : Oper} {a : Act} {w : World} {K : Act → World → Prop} {Q : Exit → Act → World → Prop} (s x : Operand)
    (ho : o.op = .call { callee := .builtin .append, args := #[s, x], argTypes := #[70, 70] })
    (b : Nat) (v : Value) (l : List Value) (hs : a.eval s = v) (h : RowL w b v l) (g : Nat) (y : Value) (hx : a.eval x = .slice (some ⟨g, 0, none⟩) 1 1) (hy : y.oneCell' = true) (hk : w.cell? ⟨g, 0, none⟩ = some y)
    (hb : b ≤ w.heap.size) (hsz : l.length + 1 ≤ 4294967296)
    (hK : ∀ v' w', RowL w' b v' (l ++ [y]) → w.grownBy w' v.ownBlock → (v'.ownBlock = v.ownBlock ∨ v'.ownBlock = .some w.heap.size) → K (a.put o.dst v') w') : o.wp Try.prog a w K Q := by
  obtain ⟨v', w', hr, h2, h3, h4⟩ := run_appendL w o.type b v l h g y hy hk hb hsz
  unfold Oper.wp execOp
  simp only [ho, resolve, invoke, builtin, Sem.run_bind, Sem.run_pure, Result.andThen_ok, List.map_toArray, List.map_cons, List.map_nil, hs, hx, hr]
  exact hK v' w' h2 h3 h4
theorem SrcI.stay {w w1 : World} {v : Value} {l : List Int} (h : SrcI w v l) (hb : ∀ k, v.ownBlock = some k → k < w.heap.size → w1.heap[k]? = w.heap[k]?) : SrcI w1 v l := by
  obtain ⟨ad, cap, rfl, h2⟩ := h
  refine ⟨ad, cap, rfl, fun h0 => ?_⟩
  obtain ⟨g, off, rfl, h3⟩ := h2 h0
  refine ⟨g, off, rfl, fun k hk => ?_⟩
  have h4 := h3 k hk
  have hlt : g < w.heap.size := by
    unfold World.cell? at h4
    by_cases hg : g < w.heap.size
    · exact hg
    · simp only [Array.getElem?_eq_none (Nat.le_of_not_lt hg)] at h4
      simp at h4
  unfold World.cell? at h4 ⊢
  rw [hb g rfl hlt]; exact h4
/-- The blocks that a forest writes. -/
def Own (F : Nat) (nv lv : Value) (k : Nat) : Prop := k = F ∨ nv.ownBlock = some k ∨ lv.ownBlock = some k
/-- What a forest has, but for its own variable. -/
structure Fr (w : World) (nv lv : Value) (vs : List Value) (N : List Pn) (LS : List (List Nat)) : Prop where
  nod : RowN w 0 nv N
  lst : RowL w 0 lv vs
  len : vs.length = LS.length
  src : ∀ (k : Nat) (v : Value) (l : List Nat), vs[k]? = some v → LS[k]? = some l → SrcI w v (ofN l)
  lt : ∀ v ∈ vs, ∀ k, v.ownBlock = some k → k < w.heap.size
  ap : ∀ k, nv.ownBlock = some k → lv.ownBlock ≠ some k
  far : ∀ v ∈ vs, ∀ k, v.ownBlock = some k → nv.ownBlock ≠ some k ∧ lv.ownBlock ≠ some k
theorem Fr.nil (w : World) : Fr w (.slice none 0 0) (.slice none 0 0) [] [] [] := ⟨RowN.nil w 0, World.ownsRow_nil w 0 _ _, rfl, by simp, by simp, by simp [Value.ownBlock], by simp⟩
theorem Fr.on {w w1 : World} {nv lv : Value} {vs : List Value} {N : List Pn} {LS : List (List Nat)} (h : Fr w nv lv vs N LS) (hb : Below w.heap.size w w1) : Fr w1 nv lv vs N LS :=
  ⟨h.nod.on hb, h.lst.on hb, h.len, fun k v l a b => (h.src k v l a b).keep hb, fun v hv k e => Nat.lt_of_lt_of_le (h.lt v hv k e) hb.size, h.ap, h.far⟩
/-- The forest in the variable of block F. -/
structure Fs (w : World) (F : Nat) (nv lv : Value) (vs : List Value) (N : List Pn) (LS : List (List Nat)) : Prop where
  blk : w.heap[F]? = some (.cells #[nv, lv] 72 (0, 0))
  fr : Fr w nv lv vs N LS
  ap1 : nv.ownBlock ≠ some F
  ap2 : lv.ownBlock ≠ some F
  ap3 : ∀ v ∈ vs, v.ownBlock ≠ some F
theorem Fs.lt {w : World} {F : Nat} {nv lv : Value} {vs : List Value} {N : List Pn} {LS : List (List Nat)} (h : Fs w F nv lv vs N LS) : F < w.heap.size := blk_lt h.blk
theorem Fs.own {w : World} {F : Nat} {nv lv : Value} {vs : List Value} {N : List Pn} {LS : List (List Nat)} (h : Fs w F nv lv vs N LS) {k : Nat} (e : Own F nv lv k) : k < w.heap.size := by
  rcases e with rfl | e | e
  · exact h.lt
  · exact (h.fr.nod.lt k e).2
  · exact (h.fr.lst.lt k e).2
theorem Fs.on {w w1 : World} {F : Nat} {nv lv : Value} {vs : List Value} {N : List Pn} {LS : List (List Nat)} (h : Fs w F nv lv vs N LS) (hb : Below w.heap.size w w1) : Fs w1 F nv lv vs N LS := ⟨blk_on h.blk hb, h.fr.on hb, h.ap1, h.ap2, h.ap3⟩
/-- What a call that writes a forest leaves as it was. -/
structure Fm (w w' : World) (F : Nat) (nv lv nv' lv' : Value) : Prop where
  os : w'.os = w.os
  tape : w'.tape = w.tape
  output : w'.output = w.output
  size : w.heap.size ≤ w'.heap.size
  block : ∀ k, k < w.heap.size → ¬ Own F nv lv k → w'.heap[k]? = w.heap[k]?
  own : ∀ k, Own F nv' lv' k → Own F nv lv k ∨ w.heap.size ≤ k
theorem Fm.of_below {w w' : World} {F : Nat} {nv lv : Value} (h : Below w.heap.size w w') : Fm w w' F nv lv nv lv := ⟨h.os, h.tape, h.output, h.size, fun k hk _ => h.block k hk, fun k e => .inl e⟩
theorem Fm.trans {w w1 w2 : World} {F : Nat} {nv lv nv1 lv1 nv2 lv2 : Value} (h : Fm w w1 F nv lv nv1 lv1) (g : Fm w1 w2 F nv1 lv1 nv2 lv2) : Fm w w2 F nv lv nv2 lv2 :=
  ⟨g.os.trans h.os, g.tape.trans h.tape, g.output.trans h.output, Nat.le_trans h.size g.size, fun k hk ho => by
    rw [g.block k (Nat.lt_of_lt_of_le hk h.size) (fun e => by
      rcases h.own k e with a | a
      · exact ho a
      · omega), h.block k hk ho], fun k e => by
    rcases g.own k e with a | a
    · exact h.own k a
    · exact .inr (Nat.le_trans h.size a)⟩
theorem Fm.below {w w' : World} {F B : Nat} {nv lv nv' lv' : Value} (h : Fm w w' F nv lv nv' lv') (hB : B ≤ w.heap.size) (ho : ∀ k, Own F nv lv k → B ≤ k) : Below B w w' :=
  ⟨h.os, h.tape, h.output, h.size, fun k hk => h.block k (by omega) (fun e => by have := ho k e; omega)⟩
theorem Fm.ge {w w' : World} {F B : Nat} {nv lv nv' lv' : Value} (h : Fm w w' F nv lv nv' lv') (hB : B ≤ w.heap.size) (ho : ∀ k, Own F nv lv k → B ≤ k) : ∀ k, Own F nv' lv' k → B ≤ k := fun k e => by
  rcases h.own k e with a | a
  · exact ho k a
  · omega
/-- A block that is not the forest's. -/
def Kf (w : World) (F : Nat) (nv lv : Value) (B : Nat) (o : Obj) : Prop := w.heap[B]? = some o ∧ ¬ Own F nv lv B
theorem Kf.moved {w w' : World} {F : Nat} {nv lv nv' lv' : Value} {B : Nat} {o : Obj} (h : Kf w F nv lv B o) (m : Fm w w' F nv lv nv' lv') : Kf w' F nv' lv' B o := by
  have hl := blk_lt h.1
  refine ⟨by rw [m.block B hl h.2]; exact h.1, fun e => ?_⟩
  rcases m.own B e with a | a
  · exact h.2 a
  · omega
theorem Kf.on {w w1 : World} {F : Nat} {nv lv : Value} {B : Nat} {o : Obj} (h : Kf w F nv lv B o) (hb : Below w.heap.size w w1) : Kf w1 F nv lv B o := ⟨blk_on h.1 hb, h.2⟩
theorem Kf.new {w : World} {F : Nat} {nv lv : Value} {vs : List Value} {N : List Pn} {LS : List (List Nat)} (h : Fs w F nv lv vs N LS) (o : Obj) : Kf (w.alloc o) F nv lv w.heap.size o := ⟨blk_new w o, fun e => by have := h.own e; omega⟩
/-- A source that is not the forest's. -/
def Ku (w : World) (F : Nat) (nv lv : Value) (v : Value) (l : List Ru) : Prop := SrcU w v l ∧ (∀ k, v.ownBlock = some k → k < w.heap.size) ∧ ∀ k, v.ownBlock = some k → ¬ Own F nv lv k
theorem Ku.moved {w w' : World} {F : Nat} {nv lv nv' lv' v : Value} {l : List Ru} (h : Ku w F nv lv v l) (m : Fm w w' F nv lv nv' lv') : Ku w' F nv' lv' v l :=
  ⟨h.1.stay (fun k e hk => m.block k hk (h.2.2 k e)), fun k e => Nat.lt_of_lt_of_le (h.2.1 k e) m.size, fun k e o => by
    rcases m.own k o with a | a
    · exact h.2.2 k e a
    · have := h.2.1 k e; omega⟩
theorem Ku.on {w w1 : World} {F : Nat} {nv lv v : Value} {l : List Ru} (h : Ku w F nv lv v l) (hb : Below w.heap.size w w1) : Ku w1 F nv lv v l := ⟨h.1.keep hb, fun k e => Nat.lt_of_lt_of_le (h.2.1 k e) hb.size, h.2.2⟩
def Ki (w : World) (F : Nat) (nv lv : Value) (v : Value) (l : List Int) : Prop := SrcI w v l ∧ (∀ k, v.ownBlock = some k → k < w.heap.size) ∧ ∀ k, v.ownBlock = some k → ¬ Own F nv lv k
theorem Ki.moved {w w' : World} {F : Nat} {nv lv nv' lv' v : Value} {l : List Int} (h : Ki w F nv lv v l) (m : Fm w w' F nv lv nv' lv') : Ki w' F nv' lv' v l :=
  ⟨h.1.stay (fun k e hk => m.block k hk (h.2.2 k e)), fun k e => Nat.lt_of_lt_of_le (h.2.1 k e) m.size, fun k e o => by
    rcases m.own k o with a | a
    · exact h.2.2 k e a
    · have := h.2.1 k e; omega⟩
theorem Ki.on {w w1 : World} {F : Nat} {nv lv v : Value} {l : List Int} (h : Ki w F nv lv v l) (hb : Below w.heap.size w w1) : Ki w1 F nv lv v l := ⟨h.1.keep hb, fun k e => Nat.lt_of_lt_of_le (h.2.1 k e) hb.size, h.2.2⟩
theorem only_setCellF (w : World) (t j : Nat) (u : Value) : Only t w (w.setCell ⟨t, j, none⟩ u) :=
  ⟨rfl, rfl, rfl, by simp, fun k hk => Below.heap_setCell w ⟨t, j, none⟩ u k hk⟩
/-- The nodes' row is another, and the variable has it. -/
theorem Fs.nodes {w w5 : World} {F : Nat} {nv lv nv' : Value} {vs : List Value} {N N' : List Pn} {LS : List (List Nat)} (h : Fs w F nv lv vs N LS) (hr : RowN w5 0 nv' N') (hg : w.grownBy w5 nv.ownBlock) (ha : nv'.ownBlock = nv.ownBlock ∨ nv'.ownBlock = some w.heap.size) :
    Fs (w5.setCell ⟨F, 0, none⟩ nv') F nv' lv vs N' LS ∧ Fm w (w5.setCell ⟨F, 0, none⟩ nv') F nv lv nv' lv := by
  have ho := only_setCellF w5 F 0 nv'
  have hF := h.lt
  have hnF : nv'.ownBlock ≠ some F := by
    rcases ha with e | e <;> rw [e]
    · exact h.ap1
    · simp; omega
  have hb5 : w5.heap[F]? = some (.cells #[nv, lv] 72 (0, 0)) := (hg.block F hF (fun e => h.ap1 e.symm)).trans h.blk
  have hkeep : ∀ k, k < w.heap.size → k ≠ F → nv.ownBlock ≠ some k → (w5.setCell ⟨F, 0, none⟩ nv').heap[k]? = w.heap[k]? := fun k hk h1 h2 => by rw [ho.block k h1, hg.block k hk (fun e => h2 e.symm)]
  refine ⟨⟨blk_set hb5 _, ⟨hr.stay (fun k e => ho.block k (fun e' => hnF (by rw [e, e']))), h.fr.lst.stay (fun k e => hkeep k (h.fr.lst.lt k e).2 (fun e' => h.ap2 (by rw [e, e'])) (fun e' => h.fr.ap k e' e)), h.fr.len, fun k v l a b => (h.fr.src k v l a b).stay (fun j e hj => hkeep j hj (fun e' => h.ap3 v (List.mem_of_getElem? a) (by rw [e, e'])) (h.fr.far v (List.mem_of_getElem? a) j e).1), fun v hv k e => Nat.lt_of_lt_of_le (h.fr.lt v hv k e) (by rw [World.size_setCell]; exact hg.size), ?_, ?_⟩, hnF, h.ap2, h.ap3⟩, ⟨hg.os, hg.tape, hg.output, by rw [World.size_setCell]; exact hg.size, fun k hk hno => hkeep k hk (fun e => hno (.inl e)) (fun e => hno (.inr (.inl e))), ?_⟩⟩
  · intro k e e'
    rcases ha with a | a
    · exact h.fr.ap k (by rw [← a]; exact e) e'
    · have := (h.fr.lst.lt k e').2; rw [a] at e; cases e; omega
  · intro v hv k e
    refine ⟨fun e' => ?_, (h.fr.far v hv k e).2⟩
    rcases ha with a | a
    · exact (h.fr.far v hv k e).1 (by rw [← a]; exact e')
    · have := h.fr.lt v hv k e; rw [a] at e'; cases e'; omega
  · rintro k (e | e | e)
    · exact .inl (.inl e)
    · rcases ha with a | a
      · exact .inl (.inr (.inl (by rw [← a]; exact e)))
      · rw [a] at e; cases e; exact .inr (Nat.le_refl _)
    · exact .inl (.inr (.inr e))
/-- A cell of a node was written. -/
theorem Fs.cell {w : World} {F g n cap : Nat} {lv : Value} {vs : List Value} {N : List Pn} {LS : List (List Nat)} (h : Fs w F (.slice (some ⟨g, 0, none⟩) n cap) lv vs N LS) (i j : Nat) (hi : i < N.length) (hj : j < 3) (y : Pn) (u : Value) (e : encN y = (encN (N[i]'hi)).set j u) :
    Fs (w.setCell ⟨g, i * 3 + j, none⟩ u) F (.slice (some ⟨g, 0, none⟩) n cap) lv vs (N.set i y) LS ∧ Fm w (w.setCell ⟨g, i * 3 + j, none⟩ u) F (.slice (some ⟨g, 0, none⟩) n cap) lv (.slice (some ⟨g, 0, none⟩) n cap) lv := by
  obtain ⟨hr, hg⟩ := h.fr.nod.set i j hi hj y u e
  have ho := only_setCellF w g (i * 3 + j) u
  have hFg : F ≠ g := fun e => h.ap1 (by simp [Value.ownBlock, e])
  have hkeep : ∀ k, k ≠ g → (w.setCell ⟨g, i * 3 + j, none⟩ u).heap[k]? = w.heap[k]? := fun k h1 => ho.block k h1
  have hgn : ∀ k, k = g → (Value.slice (some ⟨g, 0, none⟩) n cap).ownBlock = some k := fun k e => by rw [e]; rfl
  refine ⟨⟨by rw [hkeep F hFg]; exact h.blk, ⟨hr, h.fr.lst.stay (fun k e => hkeep k (fun e' => h.fr.ap k (hgn k e') e)), h.fr.len, fun k v l a b => (h.fr.src k v l a b).stay (fun q e hq => hkeep q (fun e' => (h.fr.far v (List.mem_of_getElem? a) q e).1 (hgn q e'))), fun v hv k e => by rw [World.size_setCell]; exact h.fr.lt v hv k e, h.fr.ap, h.fr.far⟩, h.ap1, h.ap2, h.ap3⟩, ⟨rfl, rfl, rfl, by rw [World.size_setCell]; exact Nat.le_refl _, fun k hk hno => hkeep k (fun e => hno (.inr (.inl (hgn k e)))), fun k e => .inl e⟩⟩
/-- A list more. -/
theorem Fs.lists {w w5 : World} {F : Nat} {nv lv lv' y : Value} {vs : List Value} {N : List Pn} {LS : List (List Nat)} {l : List Nat} (h : Fs w F nv lv vs N LS) (hr : RowL w5 0 lv' (vs ++ [y])) (hg : w.grownBy w5 lv.ownBlock) (ha : lv'.ownBlock = lv.ownBlock ∨ lv'.ownBlock = some w.heap.size)
    (hy : Ki w F nv lv y (ofN l)) :
    Fs (w5.setCell ⟨F, 1, none⟩ lv') F nv lv' (vs ++ [y]) N (LS ++ [l]) ∧ Fm w (w5.setCell ⟨F, 1, none⟩ lv') F nv lv nv lv' := by
  have ho := only_setCellF w5 F 1 lv'
  have hF := h.lt
  have hnF : lv'.ownBlock ≠ some F := by
    rcases ha with e | e <;> rw [e]
    · exact h.ap2
    · simp; omega
  have hb5 : w5.heap[F]? = some (.cells #[nv, lv] 72 (0, 0)) := (hg.block F hF (fun e => h.ap2 e.symm)).trans h.blk
  have hkeep : ∀ k, k < w.heap.size → k ≠ F → lv.ownBlock ≠ some k → (w5.setCell ⟨F, 1, none⟩ lv').heap[k]? = w.heap[k]? := fun k hk h1 h2 => by rw [ho.block k h1, hg.block k hk (fun e => h2 e.symm)]
  have hall : ∀ v ∈ vs ++ [y], (∀ k, v.ownBlock = some k → k < w.heap.size) ∧ v.ownBlock ≠ some F ∧ ∀ k, v.ownBlock = some k → nv.ownBlock ≠ some k ∧ lv.ownBlock ≠ some k := by
    intro v hv
    rcases List.mem_append.1 hv with hv | hv
    · exact ⟨h.fr.lt v hv, h.ap3 v hv, h.fr.far v hv⟩
    · rw [List.mem_singleton.1 hv]
      exact ⟨hy.2.1, fun e => hy.2.2 F e (.inl rfl), fun k e => ⟨fun e' => hy.2.2 k e (.inr (.inl e')), fun e' => hy.2.2 k e (.inr (.inr e'))⟩⟩
  refine ⟨⟨blk_set hb5 _, ⟨h.fr.nod.stay (fun k e => hkeep k (h.fr.nod.lt k e).2 (fun e' => h.ap1 (by rw [e, e'])) (h.fr.ap k e)), hr.stay (fun k e => ho.block k (fun e' => hnF (by rw [e, e']))), by simp [h.fr.len], ?_, fun v hv k e => Nat.lt_of_lt_of_le ((hall v hv).1 k e) (by rw [World.size_setCell]; exact hg.size), ?_, ?_⟩, h.ap1, hnF, fun v hv => (hall v hv).2.1⟩, ⟨hg.os, hg.tape, hg.output, by rw [World.size_setCell]; exact hg.size, fun k hk hno => hkeep k hk (fun e => hno (.inl e)) (fun e => hno (.inr (.inr e))), ?_⟩⟩
  · intro k v q a b
    have hs : SrcI w v (ofN q) := by
      rcases pn_app.1 a with a' | ⟨a1, a2⟩
      · rcases pn_app.1 b with b' | ⟨b1, b2⟩
        · exact h.fr.src k v q a' b'
        · have := pn_lt a'; have := h.fr.len; omega
      · rcases pn_app.1 b with b' | ⟨b1, b2⟩
        · have := pn_lt b'; have := h.fr.len; omega
        · rw [a2, b2]; exact hy.1
    have hm := hall v (List.mem_of_getElem? a)
    exact hs.stay (fun j e hj => hkeep j hj (fun e' => hm.2.1 (by rw [e, e'])) (hm.2.2 j e).2)
  · intro k e e'
    rcases ha with a | a
    · exact h.fr.ap k e (by rw [← a]; exact e')
    · have := (h.fr.nod.lt k e).2; rw [a] at e'; cases e'; omega
  · intro v hv k e
    have hm := hall v hv
    refine ⟨(hm.2.2 k e).1, fun e' => ?_⟩
    rcases ha with a | a
    · exact (hm.2.2 k e).2 (by rw [← a]; exact e')
    · have := hm.1 k e; rw [a] at e'; cases e'; omega
  · rintro k (e | e | e)
    · exact .inl (.inl e)
    · exact .inl (.inr (.inl e))
    · rcases ha with a | a
      · exact .inl (.inr (.inr (by rw [← a]; exact e)))
      · rw [a] at e; cases e; exact .inr (Nat.le_refl _)
end Go.Proofs.Ytcpcljdnkekogaa
/-
  bits.At; a node more.
-/
namespace Go.Proofs.Ytcpcljdnkekogaa
open Go.RowKit
set_option linter.unusedVariables false
set_option linter.unusedSimpArgs false

theorem bitC (a i : Nat) (w : World) (ha : a < 4294967296) (hi : i < 32) :
    Calls Try.prog 73 #[.int .u32 (a : Int), .int .i64 (i : Int)] w fun e w' => e = .returned (.int .i64 (Pf.tb a i : Int)) ∧ w' = w := by
  have hb : bits .and .u32 ((a : Int) / 2 ^ (31 - i)) 1 = (Pf.tb a i : Int) := by
    have h2 := Pf.bit_int a i
    rw [← h2]
    have e : ((a : Int) / 2 ^ (31 - i)) = ((a / 2 ^ (31 - i) : Nat) : Int) := by simp
    rw [e]
    have hlt : a / 2 ^ (31 - i) < 4294967296 := Nat.lt_of_le_of_lt (Nat.div_le_self _ _) ha
    generalize a / 2 ^ (31 - i) = q at *
    have h3 := Pf.and_lw q 31 hlt
    rw [show Pf.bk 31 = 2 by decide] at h3
    simpa using h3
  go_enter Try.func73, Try.ntmps73
  go_wp2
  go_ret
  exact ⟨congrArg (fun z => Ending.returned (.int .i64 z)) (Pf.wrap64_nat _ (by have := Pf.tb_lt a i; omega)), rfl⟩
/-- What bits.At tells. -/
def btv (a i : Nat) : Nat := if i < 32 then Pf.tb a i else 0
theorem btv_lt (a i : Nat) : btv a i < 2 := by unfold btv; split; exact Pf.tb_lt a i; decide
theorem atBC (a i : Nat) (w : World) (ha : a < 4294967296) (hi : i ≤ 33) :
    Calls Try.prog 52 #[.int .u32 (a : Int), .int .i64 (i : Int)] w fun e w' => ∃ er : Int, e = .returned (.tuple #[.int .i64 (btv a i : Nat), .int .i64 er]) ∧ w' = w := by
  by_cases h : i < 32
  · have e : btv a i = Pf.tb a i := if_pos h
    rw [e]
    have h' : ¬ (32 : Int) ≤ (i : Int) := by omega
    go_enter Try.func52, Try.ntmps52
    go_wp2_with (go_at_call 73; refine (bitC a i _ ha h).mono ?_; rintro e w' ⟨rfl, rfl⟩)
    go_ret2
    exact ⟨0, rfl, rfl⟩
  · have e : btv a i = 0 := if_neg h
    rw [e]
    have h' : (32 : Int) ≤ (i : Int) := by omega
    go_enter Try.func52, Try.ntmps52
    go_wp2
    go_ret2
    exact ⟨1, rfl, rfl⟩
set_option maxHeartbeats 4000000 in
set_option maxRecDepth 20000 in
theorem growC (F : Nat) (nv lv : Value) (vs : List Value) (N : List Pn) (LS : List (List Nat)) (w : World) (h : Fs w F nv lv vs N LS) (hN : N.length ≤ 4294967295) :
    Calls Try.prog 48 #[.pointer (some ⟨F, 0, none⟩)] w fun e w' => e = .returned (.int .i64 (N.length : Int)) ∧ ∃ nv', Fs w' F nv' lv vs (N ++ [pz]) LS ∧ Fm w w' F nv lv nv' lv := by
  have hlt := h.lt
  have HF : Hid (Fs w F nv lv vs N LS) := h
  obtain ⟨c0, c1⟩ := blk2 h.blk
  obtain ⟨ad, cap, rfl, hcap, hat⟩ := h.fr.nod.form
  obtain ⟨n, hn⟩ : ∃ n, n = N.length := ⟨_, rfl⟩
  have Hn : Hid (n = N.length) := hn
  have HL : Hid ((N ++ [pz]).length = n + 1) := by show _ = _; rw [List.length_append, hn]; rfl
  rw [← hn] at hN hcap c0 HF ⊢
  clear hat h hn
  have hn0 : (n : Int) ≤ 4294967295 := by omega
  have hne : ¬ F = w.heap.size := by omega
  have HFa : Hid (Fs (w.alloc (.cells #[.int .i64 0, .int .i64 0, .int .i64 0] 115)) F (.slice ad n cap) lv vs N LS) := HF.out.on ((Below.refl _ _).alloc (Nat.le_refl _) _)
  have HS : Hid (SrcN (w.alloc (.cells #[.int .i64 0, .int .i64 0, .int .i64 0] 115)) (.slice (some ⟨w.heap.size, 0, none⟩) 1 1) [pz]) := (RowN.one w 0 pz (Nat.zero_le _)).src
  have HM0 : Hid (Fm w (w.alloc (.cells #[.int .i64 0, .int .i64 0, .int .i64 0] 115)) F (.slice ad n cap) lv (.slice ad n cap) lv) := Fm.of_below ((Below.refl _ _).alloc (Nat.le_refl _) _)
  go_enter Try.func48, Try.ntmps48
  go_wp2_with (first | (at_builtin; refine wpList_appendSN rfl (.tmp 7) (.tmp 9) rfl 0 (.slice ad n cap) N rfl HFa.out.fr.nod _ [pz] rfl HS.out (Nat.zero_le _) (by rw [← Hn.out]; simp; omega) ?_; intro v5 w5 hrow5 hgr5 hat5; obtain ⟨g1, cap1, hv5, hc1, _, hg1⟩ := hrow5.some (by simp); rw [HL.out] at hv5 hc1; subst hv5; have h5 : w5.heap[F]? = some (.cells #[.slice ad n cap, lv] 72 (0, 0)) := (hgr5.block F (by simp; omega) (fun e => HFa.out.ap1 e.symm)).trans HFa.out.blk; have e2 := (blk2 h5).1; have f2 := blk_free h5 0))
  go_ret
  have hfin := HFa.out.nodes hrow5 hgr5 hat5
  exact ⟨ret_int (by omega), _, hfin.1, HM0.out.trans hfin.2⟩
end Go.Proofs.Ytcpcljdnkekogaa
/-
  The way from a root to a prefix.
-/
namespace Go.Proofs.Ytcpcljdnkekogaa
open Go.RowKit
set_option linter.unusedVariables false
set_option linter.unusedSimpArgs false

theorem Fs.at {w : World} {F : Nat} {nv lv : Value} {vs : List Value} {N : List Pn} {LS : List (List Nat)} (h : Fs w F nv lv vs N LS) {i : Nat} (x : Pn) (hx : N[i]? = some x) :
    ∃ g cap, nv = .slice (some ⟨g, 0, none⟩) N.length cap ∧ N.length ≤ cap ∧ w.cell? ⟨g, i * 3, none⟩ = some (.int .i64 (x.a : Int)) ∧ w.cell? ⟨g, i * 3 + 1, none⟩ = some (.int .i64 (x.b : Int)) ∧ w.cell? ⟨g, i * 3 + 2, none⟩ = some (.int .i64 (x.c : Int)) ∧ (∀ j, w.frozen? ⟨g, j, none⟩ = false) ∧ (x = N[i]'(pn_lt hx)) := by
  have hi := pn_lt hx
  have ex : x = N[i] := by rw [List.getElem?_eq_getElem hi] at hx; exact (Option.some.inj hx).symm
  obtain ⟨ad, cap, rfl, hcap, hat⟩ := h.fr.nod.form
  obtain ⟨g, rfl, _, hg, hc⟩ := hat (by omega)
  have hc1 := hc i hi
  rw [← ex] at hc1
  exact ⟨g, cap, rfl, hcap, hc1 0 (by decide), hc1 1 (by decide), hc1 2 (by decide), fun j => h.fr.nod.frozen j, ex⟩
set_option maxHeartbeats 4000000 in
set_option maxRecDepth 20000 in
theorem reachC (F : Nat) (nv lv : Value) (vs : List Value) (N : List Pn) (G : List Lab) (LS : List (List Nat)) (root r : Nat) (x : Nat × Nat) (w : World) (h : Fs w F nv lv vs N LS) (hw : Wf N G) (hr : G[root]? = some (r, [])) (hx : Okx x) (hN : N.length ≤ 16777216) :
    Calls Try.prog 49 #[.pointer (some ⟨F, 0, none⟩), .int .i64 (root : Int), .agg #[.int .u32 (x.1), .int .i64 (x.2)]] w fun e w' => ∃ (N' : List Pn) (G' : List Lab) (t : Nat), e = .returned (.int .i64 (t : Int)) ∧ Rch N G r (pp x) N' G' t ∧ ∃ nv' : Value, Fs w' F nv' lv vs N' LS ∧ Fm w w' F nv lv nv' lv := by
  obtain ⟨hx1, hx2, _⟩ := hx
  obtain ⟨a, n⟩ := x
  simp only at hx1 hx2
  have Hpp : Hid (pp (a, n) = pth a n) := rfl
  obtain ⟨w0, hw0⟩ : ∃ w0, w0 = w.alloc (.cells #[.int .u32 (a : Int), .int .i64 (n : Int)] 39) := ⟨_, rfl⟩
  have HB0 : Below w.heap.size w w0 := by rw [hw0]; exact (Below.refl _ _).alloc (Nat.le_refl _) _
  have HF0 : Hid (Fs w0 F nv lv vs N LS) := h.on HB0
  have HK0 : Hid (Kf w0 F nv lv w.heap.size (.cells #[.int .u32 (a : Int), .int .i64 (n : Int)] 39)) := by rw [hw0]; exact Kf.new h _
  have HM0 : Hid (Fm w w0 F nv lv nv lv) := Fm.of_below HB0
  have HR0 : Hid (Rch N G r (pth a 0) N G root) := Rch.nil hw hr
  have HN : Hid (N.length ≤ 16777216) := hN
  have HW : Hid (Wf N G) := hw
  have z1 : w0.cell? ⟨w.heap.size, 1, none⟩ = some (.int .i64 (n : Int)) := blk_cell HK0.out.1 rfl
  have hw0s : w.alloc (.cells #[.int .u32 (a : Int), .int .i64 (n : Int)] 39) = w0 := hw0.symm
  clear hw0 HB0 h hw hr hN
  have hn0 : (n : Int) ≤ 32 := by omega
  go_enter Try.func49, Try.ntmps49
  go_wp2_with (fail)
  try simp only [hw0s]
  clear hw0s z1
  go_loopw [7, 15] (fun va vi wr => ∃ (k t : Nat) (N1 : List Pn) (G1 : List Lab) (nv1 : Value), k ≤ n ∧ va = .int .i64 (t : Int) ∧ vi = .int .i64 (k : Int) ∧ Hid (Rch N G r (pth a k) N1 G1 t) ∧ Hid (Fs wr F nv1 lv vs N1 LS) ∧ Hid (Fm w wr F nv lv nv1 lv) ∧ Hid (Kf wr F nv1 lv w.heap.size (.cells #[.int .u32 (a : Int), .int .i64 (n : Int)] 39))) (fun _ vi _ => n - (intOf vi).toNat)
  case atStart => exact ⟨0, root, N, G, nv, Nat.zero_le _, rfl, rfl, HR0, HF0, HM0, HK0⟩
  case round =>
    obtain ⟨k, t, N1, G1, nv1, hk, rfl, rfl, HR, HF, HM, HK⟩ := hrel
    by_cases hlt : k < n
    · have hlti : (k : Int) < (n : Int) := by omega
      have z0 : wr.cell? ⟨w.heap.size, 0, none⟩ = some (.int .u32 (a : Int)) := blk_cell HK.out.1 rfl
      have hA := atBC a k wr hx1 (by omega)
      have hbt : btv a k = Pf.tb a k := if_pos (by omega)
      have ht2 := btv_lt a k
      rw [hbt] at hA ht2
      have Hs : Hid (pth a (k + 1) = pth a k ++ [Pf.tb a k]) := pth_succ a k
      have Hql : Hid ((pth a k).length < 32) := by show _ < _; rw [pth_len]; omega
      obtain ⟨xt, hxt⟩ := HR.out.wf.node HR.out.here
      have Hxt : Hid (N1[t]? = some xt) := hxt
      have htl : t < N1.length := pn_lt hxt
      have HN1 : Hid (N1.length ≤ 16777216 + 32) := by
        have h1 := HR.out.few; have h2 := HR.out.wf.len; have h3 := HN.out; have h4 := HW.out.len; have h5 := pth_len a k
        show _ ≤ _; omega
      obtain ⟨g, cap, rfl, hcap, c0, c1, c2, hfz, hxe⟩ := HF.out.at xt hxt
      have Hxe : Hid (xt = N1[t]) := hxe
      obtain ⟨F0, hF0⟩ := blk2 HF.out.blk
      obtain ⟨m, hm⟩ : ∃ m, m = N1.length := ⟨_, rfl⟩
      have Hm : Hid (m = N1.length) := hm
      rw [← hm] at htl hcap F0 HF HM HK
      have htm : (t : Int) < (m : Int) := by omega
      have hmb : (m : Int) ≤ 16777216 + 32 := by have := HN1.out; omega
      clear hxt hxe hbt hk hm
      rcases (show Pf.tb a k = 0 ∨ Pf.tb a k = 1 by omega) with ht | ht
      · rw [ht] at hA Hs
        by_cases h0 : xt.a = 0
        · have Hmk := HR.out.make Hxt.out (u := 0) (by decide) h0 Hql.out
          have Hmk2 : Hid (Rch N G r (pth a (k + 1)) ((N1 ++ [pz]).set t (xt.put 0 N1.length)) (G1 ++ [(r, pth a k ++ [0])]) N1.length) := by rw [← Hs.out] at Hmk; rw [← Hs.out]; exact Hmk
          have hG := growC F _ lv vs N1 LS wr HF.out (by have := HN1.out; omega)
          rw [← Hm.out] at hG
          have h0' : ((xt.a : Int) == 0) = true := by rw [h0]; rfl
          have hxa : (xt.a : Int) = 0 := by omega
          clear Hmk
          go_wp2_with (first | (go_at_call 52; refine hA.mono ?_; rintro e w4 ⟨er, rfl, hw4⟩; obtain rfl := hw4.symm; clear hw4) | (go_at_call 48; fail))
          refine hG.mono ?_
          rintro e w4 ⟨rfl, nv4, hf4, hm4⟩
          have HF4 : Hid (Fs w4 F nv4 lv vs (N1 ++ [pz]) LS) := hf4
          have HM4 : Hid (Fm w w4 F nv lv nv4 lv) := HM.out.trans hm4
          have HK4 : Hid (Kf w4 F nv4 lv w.heap.size (.cells #[.int .u32 (a : Int), .int .i64 (n : Int)] 39)) := HK.out.moved hm4
          have hxt4 : (N1 ++ [pz])[t]? = some xt := pn_app.2 (.inl Hxt.out)
          obtain ⟨g4, cap4, rfl, hcap4, d0, d1, d2, hfz4, hxe4⟩ := hf4.at xt hxt4
          obtain ⟨F4, _⟩ := blk2 hf4.blk
          have hset := hf4.cell t 0 (pn_lt hxt4) (by decide) (xt.put 0 N1.length) (.int .i64 (m : Int)) (by rw [← hxe4, Hm.out]; exact enc_put xt 0 _ (by simp))
          simp only [Nat.add_zero] at hset
          have HF5 : Hid (Fs (w4.setCell ⟨g4, t * 3, none⟩ (.int .i64 (m : Int))) F _ lv vs ((N1 ++ [pz]).set t (xt.put 0 N1.length)) LS) := hset.1
          have HM5 : Hid (Fm w (w4.setCell ⟨g4, t * 3, none⟩ (.int .i64 (m : Int))) F nv lv _ lv) := HM4.out.trans hset.2
          have HK5 : Hid (Kf (w4.setCell ⟨g4, t * 3, none⟩ (.int .i64 (m : Int))) F _ lv w.heap.size (.cells #[.int .u32 (a : Int), .int .i64 (n : Int)] 39)) := HK4.out.moved hset.2
          obtain ⟨F5, _⟩ := blk2 hset.1.blk
          have hl4 : (N1 ++ [pz]).length = m + 1 := by rw [List.length_append, Hm.out]; rfl
          rw [hl4] at F4 F5 hcap4
          rw [← Hm.out] at Hmk2
          have hz := hfz4 (t * 3)
          have htm1 : (t : Int) < (m : Int) + 1 := by omega
          clear hset hxe4 hxt4 hf4 hm4 hG hl4 HF4 HM4 HK4 hA z0 F0 hF0 c0 c1 c2 hfz
          go_wp2_with (fail)
          go_roundw
          case rel => exact ⟨k + 1, m, _, _, _, by omega, rfl, by go_num, Hmk2, by have := HF5.out; rw [← Hm.out] at this; exact this, HM5, HK5⟩
          case measure => simp [intOf]; omega
        · have Hgo : Hid (Rch N G r (pth a (k + 1)) N1 G1 xt.a) := by
            have := HR.out.go Hxt.out (u := 0) (by decide) h0
            rw [← Hs.out] at this; exact this
          have h0' : ((xt.a : Int) == 0) = false := by rw [beq_eq_false_iff_ne]; omega
          go_wp2_with (go_at_call 52; refine hA.mono ?_; rintro e w4 ⟨er, rfl, hw4⟩; obtain rfl := hw4.symm; clear hw4)
          go_roundw
          case rel => exact ⟨k + 1, xt.a, N1, G1, _, by omega, rfl, by go_num, Hgo, HF, HM, HK⟩
          case measure => simp [intOf]; omega
      · rw [ht] at hA Hs
        by_cases h0 : xt.b = 0
        · have Hmk := HR.out.make Hxt.out (u := 1) (by decide) h0 Hql.out
          have Hmk2 : Hid (Rch N G r (pth a (k + 1)) ((N1 ++ [pz]).set t (xt.put 1 N1.length)) (G1 ++ [(r, pth a k ++ [1])]) N1.length) := by rw [← Hs.out] at Hmk; rw [← Hs.out]; exact Hmk
          have hG := growC F _ lv vs N1 LS wr HF.out (by have := HN1.out; omega)
          rw [← Hm.out] at hG
          have h0' : ((xt.b : Int) == 0) = true := by rw [h0]; rfl
          have hxa : (xt.b : Int) = 0 := by omega
          clear Hmk
          go_wp2_with (first | (go_at_call 52; refine hA.mono ?_; rintro e w4 ⟨er, rfl, hw4⟩; obtain rfl := hw4.symm; clear hw4) | (go_at_call 48; fail))
          refine hG.mono ?_
          rintro e w4 ⟨rfl, nv4, hf4, hm4⟩
          have HF4 : Hid (Fs w4 F nv4 lv vs (N1 ++ [pz]) LS) := hf4
          have HM4 : Hid (Fm w w4 F nv lv nv4 lv) := HM.out.trans hm4
          have HK4 : Hid (Kf w4 F nv4 lv w.heap.size (.cells #[.int .u32 (a : Int), .int .i64 (n : Int)] 39)) := HK.out.moved hm4
          have hxt4 : (N1 ++ [pz])[t]? = some xt := pn_app.2 (.inl Hxt.out)
          obtain ⟨g4, cap4, rfl, hcap4, d0, d1, d2, hfz4, hxe4⟩ := hf4.at xt hxt4
          obtain ⟨F4, _⟩ := blk2 hf4.blk
          have hset := hf4.cell t 1 (pn_lt hxt4) (by decide) (xt.put 1 N1.length) (.int .i64 (m : Int)) (by rw [← hxe4, Hm.out]; exact enc_put xt 1 _ (by simp))
          have HF5 : Hid (Fs (w4.setCell ⟨g4, t * 3 + 1, none⟩ (.int .i64 (m : Int))) F _ lv vs ((N1 ++ [pz]).set t (xt.put 1 N1.length)) LS) := hset.1
          have HM5 : Hid (Fm w (w4.setCell ⟨g4, t * 3 + 1, none⟩ (.int .i64 (m : Int))) F nv lv _ lv) := HM4.out.trans hset.2
          have HK5 : Hid (Kf (w4.setCell ⟨g4, t * 3 + 1, none⟩ (.int .i64 (m : Int))) F _ lv w.heap.size (.cells #[.int .u32 (a : Int), .int .i64 (n : Int)] 39)) := HK4.out.moved hset.2
          obtain ⟨F5, _⟩ := blk2 hset.1.blk
          have hl4 : (N1 ++ [pz]).length = m + 1 := by rw [List.length_append, Hm.out]; rfl
          rw [hl4] at F4 F5 hcap4
          rw [← Hm.out] at Hmk2
          have hz := hfz4 (t * 3 + 1)
          have htm1 : (t : Int) < (m : Int) + 1 := by omega
          clear hset hxe4 hxt4 hf4 hm4 hG hl4 HF4 HM4 HK4 hA z0 F0 hF0 c0 c1 c2 hfz
          go_wp2_with (fail)
          go_roundw
          case rel => exact ⟨k + 1, m, _, _, _, by omega, rfl, by go_num, Hmk2, by have := HF5.out; rw [← Hm.out] at this; exact this, HM5, HK5⟩
          case measure => simp [intOf]; omega
        · have Hgo : Hid (Rch N G r (pth a (k + 1)) N1 G1 xt.b) := by
            have := HR.out.go Hxt.out (u := 1) (by decide) h0
            rw [← Hs.out] at this; exact this
          have h0' : ((xt.b : Int) == 0) = false := by rw [beq_eq_false_iff_ne]; omega
          go_wp2_with (go_at_call 52; refine hA.mono ?_; rintro e w4 ⟨er, rfl, hw4⟩; obtain rfl := hw4.symm; clear hw4)
          go_roundw
          case rel => exact ⟨k + 1, xt.b, N1, G1, _, by omega, rfl, by go_num, Hgo, HF, HM, HK⟩
          case measure => simp [intOf]; omega
    · obtain rfl : k = n := by omega
      have hni : ¬ (k : Int) < (k : Int) := by omega
      go_wp2
      go_ret
      exact ⟨N1, G1, t, rfl, HR.out, nv1, HF.out, HM.out⟩
end Go.Proofs.Ytcpcljdnkekogaa
