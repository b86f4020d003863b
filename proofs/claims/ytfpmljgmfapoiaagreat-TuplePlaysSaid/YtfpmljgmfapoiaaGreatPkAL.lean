/-
  PkAL: TpU TpQl, one behind the other (tools/pack.py).
-/
import Derived.Test.YtfpmljgmfapoiaaGreatPkAJ
import Derived.Test.YtfpmljgmfapoiaaGreatPkAK
import Derived.Test.YtfpmljgmfapoiaaGreatPkAH
import Derived.Test.YtfpmljgmfapoiaaGreatPkAD
import Derived.Test.YtfpmljgmfapoiaaGreatPkAA
/-
  Rows of spots and of turns. Written by tools/mkTpU.py, after the rows of rules.
-/
namespace Go.Proofs.YtfpmljgmfapoiaaGreat
open Go.RowKit
set_option linter.unusedVariables false
set_option linter.unusedSimpArgs false

/-- Where a rule stands: the tuple, the header. -/
abbrev Spt := Tp × Hx.Hd
/-- A table's turn: the least place of its rules, the block of the table. -/
abbrev Trn := Nat × Nat
def encO (p : Spt) : List Value := [.int .i64 p.1.a, .int .i64 p.1.b, .int .i64 p.1.c, .int .i64 p.1.d, .int .u8 p.1.m, .int .u32 p.2.s, .int .u32 p.2.d, .int .u16 p.2.p, .int .u16 p.2.q, .int .u8 p.2.r]
def flatO : List (Spt) → List Value
  | [] => []
  | p :: l => encO p ++ flatO l
theorem flatO_length (l : List (Spt)) : (flatO l).length = l.length * 10 := by
  induction l with
  | nil => rfl
  | cons p l ih => simp only [flatO, encO, List.length_append, List.length_cons, List.length_nil, ih]; omega
theorem flatO_append (l k : List (Spt)) : flatO (l ++ k) = flatO l ++ flatO k := by
  induction l with
  | nil => rfl
  | cons p l ih => simp only [flatO, List.cons_append, ih, List.append_assoc]
theorem flatO_one (l : List (Spt)) : ∀ u ∈ flatO l, u.oneCell' = true := by
  induction l with
  | nil => intro u hu; cases hu
  | cons p l ih =>
    intro u hu
    simp only [flatO, List.mem_append] at hu
    rcases hu with hu | hu
    · simp only [encO, List.mem_cons, List.not_mem_nil, or_false] at hu
      rcases hu with rfl | rfl | rfl | rfl | rfl | rfl | rfl | rfl | rfl | rfl <;> rfl
    · exact ih u hu
theorem flatO_at : ∀ (l : List (Spt)) (i : Nat) (h : i < l.length) (j : Nat) (hj : j < 10), (flatO l)[i * 10 + j]? = (encO (l[i]'h))[j]?
  | p :: l, 0, _, j, hj => by
    rw [Nat.zero_mul, Nat.zero_add]
    exact List.getElem?_append_left (by simp [encO]; omega)
  | p :: l, i + 1, h, j, hj => by
    have := flatO_at l i (by simpa using h) j hj
    show (encO p ++ flatO l)[(i + 1) * 10 + j]? = _
    rw [List.getElem?_append_right (by simp [encO]; omega), show (i + 1) * 10 + j - (encO p).length = i * 10 + j by simp [encO]; omega]
    exact this
theorem infoO : (Tryz.prog.info? 146).map (fun i => (i.zero, i.size, i.bytes)) = some (some (.agg #[.int .i64 0, .int .i64 0, .int .i64 0, .int .i64 0, .int .u8 0, .int .u32 0, .int .u32 0, .int .u16 0, .int .u16 0, .int .u8 0]), 10, 56) := by kernel_rfl
/-- The row v of w holds the list. -/
def RowO (w : World) (base : Nat) (v : Value) (l : List (Spt)) : Prop := w.ownsRow base 146 10 v l.length (flatO l)
theorem RowO.base {w : World} {b b' : Nat} {v : Value} {l : List (Spt)} (h : RowO w b v l) (hb : b' ≤ b) : RowO w b' v l := by
  refine ⟨h.1, ?_⟩
  rcases h.2 with h2 | ⟨g, cap, cur, hv, hg, r⟩
  · exact .inl h2
  · exact .inr ⟨g, cap, cur, hv, by omega, r⟩
theorem RowO.on {w w1 : World} {b : Nat} {v : Value} {l : List (Spt)} (h : RowO w b v l) (hb : Below w.heap.size w w1) : RowO w1 b v l := by
  refine ⟨h.1, ?_⟩
  rcases h.2 with h2 | ⟨g, cap, cur, hv, hg, hh, r⟩
  · exact .inl h2
  · exact .inr ⟨g, cap, cur, hv, hg, by rw [hb.block g (Array.getElem?_eq_some_iff.1 hh).1]; exact hh, r⟩
theorem RowO.alloc {w : World} {b : Nat} {v : Value} {l : List (Spt)} (h : RowO w b v l) (o : Obj) : RowO (w.alloc o) b v l := World.ownsRow.alloc h o
theorem RowO.drew {w : World} {b : Nat} {v : Value} {l : List (Spt)} (h : RowO w b v l) : RowO w.drew b v l := h
theorem RowO.nil (w : World) (b : Nat) : RowO w b (.slice none 0 0) [] := World.ownsRow_nil w b _ _
theorem RowO.one (w : World) (b : Nat) (p : Spt) (hb : b ≤ w.heap.size) : RowO (w.alloc (.cells #[.int .i64 p.1.a, .int .i64 p.1.b, .int .i64 p.1.c, .int .i64 p.1.d, .int .u8 p.1.m, .int .u32 p.2.s, .int .u32 p.2.d, .int .u16 p.2.p, .int .u16 p.2.q, .int .u8 p.2.r] 146)) b (.slice (some ⟨w.heap.size, 0, none⟩) 1 1) [p] :=
  World.ownsRow_lit w #[.int .i64 p.1.a, .int .i64 p.1.b, .int .i64 p.1.c, .int .i64 p.1.d, .int .u8 p.1.m, .int .u32 p.2.s, .int .u32 p.2.d, .int .u16 p.2.p, .int .u16 p.2.q, .int .u8 p.2.r] 1 hb (by simp [maxLen]) rfl
theorem RowO.lt {w : World} {b : Nat} {v : Value} {l : List (Spt)} (h : RowO w b v l) : ∀ k, v.ownBlock = some k → b ≤ k ∧ k < w.heap.size := World.ownsRow.lt h
theorem RowO.put {w : World} {b : Nat} {v : Value} {l : List (Spt)} (h : RowO w b v l) {g i : Nat} (hg : some g ≠ v.ownBlock) (u : Value) : RowO (w.setCell ⟨g, i, none⟩ u) b v l := by
  refine ⟨h.1, ?_⟩
  rcases h.2 with h2 | ⟨g', cap, cur, hv, hb, hh, r⟩
  · exact .inl h2
  · exact .inr ⟨g', cap, cur, hv, hb, by rw [Below.heap_setCell _ _ _ _ (by intro e; apply hg; rw [hv]; simp [Value.ownBlock, e])]; exact hh, r⟩
/-- What a row looks like. -/
theorem RowO.form {w : World} {b : Nat} {v : Value} {l : List (Spt)} (h : RowO w b v l) :
    ∃ (ad : Option Addr) (cap : Nat), v = .slice ad l.length cap ∧ l.length ≤ cap ∧ (0 < l.length → ∃ g, ad = some ⟨g, 0, none⟩ ∧ b ≤ g ∧ g < w.heap.size ∧ ∀ k (hk : k < l.length) j, j < 10 → w.cell? ⟨g, k * 10 + j, none⟩ = (encO (l[k]'hk))[j]?) := by
  rcases h.2 with ⟨hv, hn⟩ | ⟨g, cap, cur, hv, hb, hg, hcap, r⟩
  · exact ⟨none, 0, by rw [hv, hn], by omega, fun h0 => by omega⟩
  · subst hv
    refine ⟨_, cap, rfl, hcap, fun _ => ⟨g, rfl, hb, (Array.getElem?_eq_some_iff.1 hg).1, fun k hk j hj => ?_⟩⟩
    have h' : w.ownsRow b 146 10 (.slice (some ⟨g, 0, none⟩) l.length cap) l.length (flatO l) := h
    rw [h'.cellAt (k * 10 + j) (by omega), flatO_at l k hk j hj]
theorem RowO.frozen {w : World} {b g cap n : Nat} {l : List (Spt)} (h : RowO w b (.slice (some ⟨g, 0, none⟩) n cap) l) (j : Nat) : w.frozen? ⟨g, j, none⟩ = false := by
  rcases h.2 with ⟨hv, _⟩ | ⟨g', cap', cur, hv, hb, hg, r⟩
  · cases hv
  · cases hv; simp [World.frozen?, hg]

/-- The slice v of w reads as the list of rules. -/
def SrcO (w : World) (v : Value) (l : List Spt) : Prop :=
  ∃ (ad : Option Addr) (cap : Nat), v = .slice ad l.length cap ∧ (l.length ≤ cap ∧ (ad = none → cap = 0)) ∧ (0 < l.length → ∃ g off, ad = some ⟨g, off, none⟩ ∧ ∀ k (hk : k < l.length) j, j < 10 → w.cell? ⟨g, off + (k * 10 + j), none⟩ = (encO (l[k]'hk))[j]?)
theorem encO_some (R : Spt) {j : Nat} (h : j < 10) : ∃ v, (encO R)[j]? = some v := ⟨(encO R)[j]'(by simp [encO]; omega), List.getElem?_eq_getElem _⟩
theorem SrcO.keep {w w1 : World} {v : Value} {l : List Spt} (h : SrcO w v l) (hb : Below w.heap.size w w1) : SrcO w1 v l := by
  obtain ⟨ad, cap, rfl, hc, h2⟩ := h
  refine ⟨ad, cap, rfl, hc, fun h0 => ?_⟩
  obtain ⟨g, off, rfl, h3⟩ := h2 h0
  exact ⟨g, off, rfl, fun k hk j hj => by
    have := h3 k hk j hj
    obtain ⟨u, hu⟩ := encO_some (l[k]'hk) hj
    rw [hb.cell (World.block_lt_of_cell? w _ (this.trans hu))]; exact this⟩
/-- A source whose block stays. -/
theorem SrcO.stay {w w1 : World} {v : Value} {l : List Spt} (h : SrcO w v l) (hb : ∀ k, v.ownBlock = some k → k < w.heap.size → w1.heap[k]? = w.heap[k]?) : SrcO w1 v l := by
  obtain ⟨ad, cap, rfl, hc, h2⟩ := h
  refine ⟨ad, cap, rfl, hc, fun h0 => ?_⟩
  obtain ⟨g, off, rfl, h3⟩ := h2 h0
  exact ⟨g, off, rfl, fun k hk j hj => by
    have := h3 k hk j hj
    obtain ⟨u, hu⟩ := encO_some (l[k]'hk) hj
    have hlt := World.block_lt_of_cell? w _ (this.trans hu)
    rw [World.cell?_of_block (w := w) (a := ⟨g, off + (k * 10 + j), none⟩) (hb g rfl hlt)]; exact this⟩
theorem RowO.src {w : World} {b : Nat} {v : Value} {l : List Spt} (h : RowO w b v l) : SrcO w v l := by
  obtain ⟨ad, cap, hv, hc, h2⟩ := h.form
  refine ⟨ad, cap, hv, ⟨hc, fun e => ?_⟩, fun h0 => ?_⟩
  · subst e
    rcases h.2 with ⟨hv', _⟩ | ⟨g, cap', cur, hv', _⟩
    · rw [hv] at hv'; injection hv'
    · rw [hv] at hv'; cases hv'
  obtain ⟨g, e, _, _, h3⟩ := h2 h0
  exact ⟨g, 0, e, fun k hk j hj => by rw [Nat.zero_add]; exact h3 k hk j hj⟩
theorem SrcO.flat {w : World} {g off n cap : Nat} {l : List Spt} (h : SrcO w (.slice (some ⟨g, off, none⟩) n cap) l) : ∀ j u, (flatO l)[j]? = some u → w.cell? ((⟨g, off, none⟩ : Addr).add j) = some u := by
  intro j u hu
  obtain ⟨ad, c, e, hc, h2⟩ := h
  cases e
  have hj : j < (flatO l).length := (List.getElem?_eq_some_iff.1 hu).1
  rw [flatO_length] at hj
  obtain ⟨g', off', e', h3⟩ := h2 (by omega)
  cases e'
  have hk : j / 10 < l.length := by omega
  have hm : j % 10 < 10 := Nat.mod_lt _ (by decide)
  have e1 : j / 10 * 10 + j % 10 = j := by omega
  have h4 := flatO_at l (j / 10) hk (j % 10) hm
  rw [e1] at h4
  have h5 := h3 (j / 10) hk (j % 10) hm
  rw [e1] at h5
  rw [Addr.add_lit, h5, ← h4]
  exact hu
theorem flatO_take (l : List Spt) (p : Nat) : (flatO l).take (p * 10) = flatO (l.take p) := by
  by_cases h : p ≤ l.length
  · have e := flatO_append (l.take p) (l.drop p)
    rw [List.take_append_drop] at e
    rw [e]
    have hl : (flatO (l.take p)).length = p * 10 := by rw [flatO_length, List.length_take]; congr 1; omega
    rw [List.take_append_of_le_length (by omega), List.take_of_length_le (by omega)]
  · rw [List.take_of_length_le (by rw [flatO_length]; omega), List.take_of_length_le (by omega)]
theorem flatO_drop (l : List Spt) (p : Nat) : (flatO l).drop (p * 10) = flatO (l.drop p) := by
  by_cases h : p ≤ l.length
  · have e := flatO_append (l.take p) (l.drop p)
    rw [List.take_append_drop] at e
    rw [e]
    have hl : (flatO (l.take p)).length = p * 10 := by rw [flatO_length, List.length_take]; congr 1; omega
    rw [← hl, List.drop_left]
  · rw [List.drop_eq_nil_of_le (by rw [flatO_length]; omega), List.drop_eq_nil_of_le (by omega)]; rfl
/-- A row with something in it. -/
theorem RowO.some {w : World} {b : Nat} {v : Value} {l : List Spt} (h : RowO w b v l) (h0 : 0 < l.length) : ∃ g cap, v = .slice (.some ⟨g, 0, none⟩) l.length cap ∧ l.length ≤ cap ∧ b ≤ g ∧ g < w.heap.size := by
  obtain ⟨ad, cap, hv, hc, h2⟩ := h.form
  obtain ⟨g, rfl, hb, hg, _⟩ := h2 h0
  exact ⟨g, cap, hv, hc, hb, hg⟩
/-- Rules laid over a row from a place on. -/
theorem RowO.over {w w' : World} {b g n cap : Nat} {l : List Spt} (h : RowO w b (.slice (.some ⟨g, 0, none⟩) n cap) l) (p : Nat) (k : List Spt) (hf : p + k.length ≤ n)
    (hw : ∀ cur, w.heap[g]? = .some (.cells cur 146 (0, 0)) → w'.heap[g]? = .some (.cells (cur.toList.take (p * 10) ++ flatO k ++ cur.toList.drop (p * 10 + (flatO k).length)).toArray 146 (0, 0))) :
    RowO w' b (.slice (.some ⟨g, 0, none⟩) n cap) (l.take p ++ k ++ l.drop (p + k.length)) := by
  have hn : l.length = n := by
    rcases h.2 with ⟨hv, _⟩ | ⟨g', cap', cur, hv, _⟩
    · cases hv
    · cases hv; rfl
  subst hn
  have hlen : (l.take p ++ k ++ l.drop (p + k.length)).length = l.length := by simp; omega
  rcases h.2 with ⟨hv, _⟩ | ⟨g', cap', cur, hv, hb, hg, hc, hm, hs, ht⟩
  · cases hv
  · cases hv
    refine ⟨by rw [hlen, flatO_length, hlen], .inr ⟨g, cap, _, by rw [hlen], hb, hw cur hg, by rw [hlen]; exact hc, hm, ?_, ?_⟩⟩
    · rw [flatO_length]
      simp only [List.size_toArray, List.length_append, List.length_take, List.length_drop, Array.length_toList, flatO_length]
      omega
    · rw [hlen]
      have e1 : cur.toList.take (p * 10) = flatO (l.take p) := by
        rw [← flatO_take, ← ht, List.take_take]; congr 1; omega
      have e2 : (cur.toList.drop (p * 10 + (flatO k).length)).take (l.length * 10 - (p * 10 + (flatO k).length)) = flatO (l.drop (p + k.length)) := by
        rw [← flatO_drop, ← ht, List.drop_take, flatO_length]
        rw [show p * 10 + k.length * 10 = (p + k.length) * 10 by omega]
      have l1 : (flatO (l.take p)).length = p * 10 := by rw [flatO_length, List.length_take]; omega
      rw [e1, flatO_append, flatO_append, ← e2]
      have l2 := flatO_length k
      rw [List.take_append, List.take_of_length_le (by rw [List.length_append, l1, l2]; omega)]
      congr 2
      rw [List.length_append, l1]
/-- 'append' of a source to an owned row; where the new row lies. -/
theorem run_appendSO (w : World) (ty : TypeId) (b : Nat) (v : Value) (l : List Spt) (h : RowO w b v l) (u : Value) (k : List Spt) (hk : SrcO w u k) (hb : b ≤ w.heap.size) (hsz : l.length + k.length ≤ 4294967296) :
    ∃ v' w', (Builtin.append_ #[141, 141] ty #[v, u]).run Tryz.prog w = .ok v' w' ∧ RowO w' b v' (l ++ k) ∧ w.grownBy w' v.ownBlock ∧ (v'.ownBlock = v.ownBlock ∨ v'.ownBlock = .some w.heap.size) := by
  obtain ⟨i0, hi, hz0, hz1, hz2⟩ := info_parts infoO
  have hmx : l.length + k.length ≤ maxLen := by unfold maxLen; omega
  have hk' := hk
  obtain ⟨ad, c, rfl, hc, h2⟩ := hk
  cases ad with
  | none =>
    have h0 : k.length = 0 := by have := hc.1; have := hc.2 rfl; omega
    have hc0 : c = 0 := hc.2 rfl
    have hr := run_append_owned_none (P := Tryz.prog) (w := w) b 141 ty 146 i0 10 Tryz.underlying141 hi v l.length (flatO l) h
    rw [h0, hc0]
    refine ⟨v, w, hr, ?_, ⟨rfl, rfl, rfl, Nat.le_refl _, fun _ _ _ => rfl⟩, .inl rfl⟩
    rw [List.eq_nil_of_length_eq_zero h0, List.append_nil]
    exact h
  | some a =>
    have hfl : ∀ j x, (flatO k)[j]? = .some x → w.cell? (a.add j) = .some x := by
      by_cases h0 : 0 < k.length
      · obtain ⟨g, off, e, _⟩ := h2 h0
        cases e
        exact hk'.flat
      · rw [List.eq_nil_of_length_eq_zero (by omega : k.length = 0)]
        intro j x hx
        simp [flatO] at hx
    obtain ⟨v', w', hr, ho, hgr, _, hat⟩ := run_append_own_at (P := Tryz.prog) w b 141 ty 146 i0 (.agg #[.int .i64 0, .int .i64 0, .int .i64 0, .int .i64 0, .int .u8 0, .int .u32 0, .int .u32 0, .int .u16 0, .int .u16 0, .int .u8 0]) 10 56 Tryz.underlying141 hi hz0 hz1 hz2 rfl (by decide) v l.length (flatO l) h a k.length c (flatO k) (flatO_length k) hfl (flatO_one k) hmx (by omega) hb
    refine ⟨v', w', hr, ?_, hgr, hat⟩
    unfold RowO
    rw [List.length_append, flatO_append]
    exact ho
theorem wpList_appendSO {ops : Array Oper} {rest : List Oper} {o : Oper} {a : Act} {w : World} {Q : Exit → Act → World → Prop} (hgd : o.guard = none) (s x : Operand)
    (ho : o.op = .call { callee := .builtin .append, args := #[s, x], argTypes := #[141, 141] })
    (b : Nat) (v : Value) (l : List Spt) (hs : a.eval s = v) (h : RowO w b v l) (u : Value) (k : List Spt) (hx : a.eval x = u) (hk : SrcO w u k)
    (hb : b ≤ w.heap.size) (hsz : l.length + k.length ≤ 4294967296)
    (hK : ∀ v' w', RowO w' b v' (l ++ k) → w.grownBy w' v.ownBlock → (v'.ownBlock = v.ownBlock ∨ v'.ownBlock = .some w.heap.size) → wpList Tryz.prog ops Q rest (a.put o.dst v') w') : wpList Tryz.prog ops Q (o :: rest) a w := by
  refine wpList_plain hgd fun K hK' => ?_
  obtain ⟨v', w', hr, h2, h3, h4⟩ := run_appendSO w o.type b v l h u k hk hb hsz
  unfold Oper.wp execOp
  simp only [ho, resolve, invoke, builtin, Sem.run_bind, Sem.run_pure, Result.andThen_ok, List.map_toArray, List.map_cons, List.map_nil, hs, hx, hr]
  exact hK' _ _ (hK v' w' h2 h3 h4)
def encV (p : Trn) : List Value := [.int .i64 p.1, .pointer (some ⟨p.2, 0, none⟩)]
def flatV : List (Trn) → List Value
  | [] => []
  | p :: l => encV p ++ flatV l
theorem flatV_length (l : List (Trn)) : (flatV l).length = l.length * 2 := by
  induction l with
  | nil => rfl
  | cons p l ih => simp only [flatV, encV, List.length_append, List.length_cons, List.length_nil, ih]; omega
theorem flatV_append (l k : List (Trn)) : flatV (l ++ k) = flatV l ++ flatV k := by
  induction l with
  | nil => rfl
  | cons p l ih => simp only [flatV, List.cons_append, ih, List.append_assoc]
theorem flatV_one (l : List (Trn)) : ∀ u ∈ flatV l, u.oneCell' = true := by
  induction l with
  | nil => intro u hu; cases hu
  | cons p l ih =>
    intro u hu
    simp only [flatV, List.mem_append] at hu
    rcases hu with hu | hu
    · simp only [encV, List.mem_cons, List.not_mem_nil, or_false] at hu
      rcases hu with rfl | rfl <;> rfl
    · exact ih u hu
theorem flatV_at : ∀ (l : List (Trn)) (i : Nat) (h : i < l.length) (j : Nat) (hj : j < 2), (flatV l)[i * 2 + j]? = (encV (l[i]'h))[j]?
  | p :: l, 0, _, j, hj => by
    rw [Nat.zero_mul, Nat.zero_add]
    exact List.getElem?_append_left (by simp [encV]; omega)
  | p :: l, i + 1, h, j, hj => by
    have := flatV_at l i (by simpa using h) j hj
    show (encV p ++ flatV l)[(i + 1) * 2 + j]? = _
    rw [List.getElem?_append_right (by simp [encV]; omega), show (i + 1) * 2 + j - (encV p).length = i * 2 + j by simp [encV]; omega]
    exact this
theorem infoV : (Tryz.prog.info? 95).map (fun i => (i.zero, i.size, i.bytes)) = some (some (.agg #[.int .i64 0, .pointer none]), 2, 16) := by kernel_rfl
/-- The row v of w holds the list. -/
def RowV (w : World) (base : Nat) (v : Value) (l : List (Trn)) : Prop := w.ownsRow base 95 2 v l.length (flatV l)
theorem RowV.base {w : World} {b b' : Nat} {v : Value} {l : List (Trn)} (h : RowV w b v l) (hb : b' ≤ b) : RowV w b' v l := by
  refine ⟨h.1, ?_⟩
  rcases h.2 with h2 | ⟨g, cap, cur, hv, hg, r⟩
  · exact .inl h2
  · exact .inr ⟨g, cap, cur, hv, by omega, r⟩
theorem RowV.on {w w1 : World} {b : Nat} {v : Value} {l : List (Trn)} (h : RowV w b v l) (hb : Below w.heap.size w w1) : RowV w1 b v l := by
  refine ⟨h.1, ?_⟩
  rcases h.2 with h2 | ⟨g, cap, cur, hv, hg, hh, r⟩
  · exact .inl h2
  · exact .inr ⟨g, cap, cur, hv, hg, by rw [hb.block g (Array.getElem?_eq_some_iff.1 hh).1]; exact hh, r⟩
theorem RowV.alloc {w : World} {b : Nat} {v : Value} {l : List (Trn)} (h : RowV w b v l) (o : Obj) : RowV (w.alloc o) b v l := World.ownsRow.alloc h o
theorem RowV.drew {w : World} {b : Nat} {v : Value} {l : List (Trn)} (h : RowV w b v l) : RowV w.drew b v l := h
theorem RowV.nil (w : World) (b : Nat) : RowV w b (.slice none 0 0) [] := World.ownsRow_nil w b _ _
theorem RowV.one (w : World) (b : Nat) (p : Trn) (hb : b ≤ w.heap.size) : RowV (w.alloc (.cells #[.int .i64 p.1, .pointer (some ⟨p.2, 0, none⟩)] 95)) b (.slice (some ⟨w.heap.size, 0, none⟩) 1 1) [p] :=
  World.ownsRow_lit w #[.int .i64 p.1, .pointer (some ⟨p.2, 0, none⟩)] 1 hb (by simp [maxLen]) rfl
theorem RowV.lt {w : World} {b : Nat} {v : Value} {l : List (Trn)} (h : RowV w b v l) : ∀ k, v.ownBlock = some k → b ≤ k ∧ k < w.heap.size := World.ownsRow.lt h
theorem RowV.put {w : World} {b : Nat} {v : Value} {l : List (Trn)} (h : RowV w b v l) {g i : Nat} (hg : some g ≠ v.ownBlock) (u : Value) : RowV (w.setCell ⟨g, i, none⟩ u) b v l := by
  refine ⟨h.1, ?_⟩
  rcases h.2 with h2 | ⟨g', cap, cur, hv, hb, hh, r⟩
  · exact .inl h2
  · exact .inr ⟨g', cap, cur, hv, hb, by rw [Below.heap_setCell _ _ _ _ (by intro e; apply hg; rw [hv]; simp [Value.ownBlock, e])]; exact hh, r⟩
/-- What a row looks like. -/
theorem RowV.form {w : World} {b : Nat} {v : Value} {l : List (Trn)} (h : RowV w b v l) :
    ∃ (ad : Option Addr) (cap : Nat), v = .slice ad l.length cap ∧ l.length ≤ cap ∧ (0 < l.length → ∃ g, ad = some ⟨g, 0, none⟩ ∧ b ≤ g ∧ g < w.heap.size ∧ ∀ k (hk : k < l.length) j, j < 2 → w.cell? ⟨g, k * 2 + j, none⟩ = (encV (l[k]'hk))[j]?) := by
  rcases h.2 with ⟨hv, hn⟩ | ⟨g, cap, cur, hv, hb, hg, hcap, r⟩
  · exact ⟨none, 0, by rw [hv, hn], by omega, fun h0 => by omega⟩
  · subst hv
    refine ⟨_, cap, rfl, hcap, fun _ => ⟨g, rfl, hb, (Array.getElem?_eq_some_iff.1 hg).1, fun k hk j hj => ?_⟩⟩
    have h' : w.ownsRow b 95 2 (.slice (some ⟨g, 0, none⟩) l.length cap) l.length (flatV l) := h
    rw [h'.cellAt (k * 2 + j) (by omega), flatV_at l k hk j hj]
theorem RowV.frozen {w : World} {b g cap n : Nat} {l : List (Trn)} (h : RowV w b (.slice (some ⟨g, 0, none⟩) n cap) l) (j : Nat) : w.frozen? ⟨g, j, none⟩ = false := by
  rcases h.2 with ⟨hv, _⟩ | ⟨g', cap', cur, hv, hb, hg, r⟩
  · cases hv
  · cases hv; simp [World.frozen?, hg]

/-- The slice v of w reads as the list of rules. -/
def SrcV (w : World) (v : Value) (l : List Trn) : Prop :=
  ∃ (ad : Option Addr) (cap : Nat), v = .slice ad l.length cap ∧ (l.length ≤ cap ∧ (ad = none → cap = 0)) ∧ (0 < l.length → ∃ g off, ad = some ⟨g, off, none⟩ ∧ ∀ k (hk : k < l.length) j, j < 2 → w.cell? ⟨g, off + (k * 2 + j), none⟩ = (encV (l[k]'hk))[j]?)
theorem encV_some (R : Trn) {j : Nat} (h : j < 2) : ∃ v, (encV R)[j]? = some v := ⟨(encV R)[j]'(by simp [encV]; omega), List.getElem?_eq_getElem _⟩
theorem SrcV.keep {w w1 : World} {v : Value} {l : List Trn} (h : SrcV w v l) (hb : Below w.heap.size w w1) : SrcV w1 v l := by
  obtain ⟨ad, cap, rfl, hc, h2⟩ := h
  refine ⟨ad, cap, rfl, hc, fun h0 => ?_⟩
  obtain ⟨g, off, rfl, h3⟩ := h2 h0
  exact ⟨g, off, rfl, fun k hk j hj => by
    have := h3 k hk j hj
    obtain ⟨u, hu⟩ := encV_some (l[k]'hk) hj
    rw [hb.cell (World.block_lt_of_cell? w _ (this.trans hu))]; exact this⟩
/-- A source whose block stays. -/
theorem SrcV.stay {w w1 : World} {v : Value} {l : List Trn} (h : SrcV w v l) (hb : ∀ k, v.ownBlock = some k → k < w.heap.size → w1.heap[k]? = w.heap[k]?) : SrcV w1 v l := by
  obtain ⟨ad, cap, rfl, hc, h2⟩ := h
  refine ⟨ad, cap, rfl, hc, fun h0 => ?_⟩
  obtain ⟨g, off, rfl, h3⟩ := h2 h0
  exact ⟨g, off, rfl, fun k hk j hj => by
    have := h3 k hk j hj
    obtain ⟨u, hu⟩ := encV_some (l[k]'hk) hj
    have hlt := World.block_lt_of_cell? w _ (this.trans hu)
    rw [World.cell?_of_block (w := w) (a := ⟨g, off + (k * 2 + j), none⟩) (hb g rfl hlt)]; exact this⟩
theorem RowV.src {w : World} {b : Nat} {v : Value} {l : List Trn} (h : RowV w b v l) : SrcV w v l := by
  obtain ⟨ad, cap, hv, hc, h2⟩ := h.form
  refine ⟨ad, cap, hv, ⟨hc, fun e => ?_⟩, fun h0 => ?_⟩
  · subst e
    rcases h.2 with ⟨hv', _⟩ | ⟨g, cap', cur, hv', _⟩
    · rw [hv] at hv'; injection hv'
    · rw [hv] at hv'; cases hv'
  obtain ⟨g, e, _, _, h3⟩ := h2 h0
  exact ⟨g, 0, e, fun k hk j hj => by rw [Nat.zero_add]; exact h3 k hk j hj⟩
theorem SrcV.flat {w : World} {g off n cap : Nat} {l : List Trn} (h : SrcV w (.slice (some ⟨g, off, none⟩) n cap) l) : ∀ j u, (flatV l)[j]? = some u → w.cell? ((⟨g, off, none⟩ : Addr).add j) = some u := by
  intro j u hu
  obtain ⟨ad, c, e, hc, h2⟩ := h
  cases e
  have hj : j < (flatV l).length := (List.getElem?_eq_some_iff.1 hu).1
  rw [flatV_length] at hj
  obtain ⟨g', off', e', h3⟩ := h2 (by omega)
  cases e'
  have hk : j / 2 < l.length := by omega
  have hm : j % 2 < 2 := Nat.mod_lt _ (by decide)
  have e1 : j / 2 * 2 + j % 2 = j := by omega
  have h4 := flatV_at l (j / 2) hk (j % 2) hm
  rw [e1] at h4
  have h5 := h3 (j / 2) hk (j % 2) hm
  rw [e1] at h5
  rw [Addr.add_lit, h5, ← h4]
  exact hu
theorem flatV_take (l : List Trn) (p : Nat) : (flatV l).take (p * 2) = flatV (l.take p) := by
  by_cases h : p ≤ l.length
  · have e := flatV_append (l.take p) (l.drop p)
    rw [List.take_append_drop] at e
    rw [e]
    have hl : (flatV (l.take p)).length = p * 2 := by rw [flatV_length, List.length_take]; congr 1; omega
    rw [List.take_append_of_le_length (by omega), List.take_of_length_le (by omega)]
  · rw [List.take_of_length_le (by rw [flatV_length]; omega), List.take_of_length_le (by omega)]
theorem flatV_drop (l : List Trn) (p : Nat) : (flatV l).drop (p * 2) = flatV (l.drop p) := by
  by_cases h : p ≤ l.length
  · have e := flatV_append (l.take p) (l.drop p)
    rw [List.take_append_drop] at e
    rw [e]
    have hl : (flatV (l.take p)).length = p * 2 := by rw [flatV_length, List.length_take]; congr 1; omega
    rw [← hl, List.drop_left]
  · rw [List.drop_eq_nil_of_le (by rw [flatV_length]; omega), List.drop_eq_nil_of_le (by omega)]; rfl
/-- A row with something in it. -/
theorem RowV.some {w : World} {b : Nat} {v : Value} {l : List Trn} (h : RowV w b v l) (h0 : 0 < l.length) : ∃ g cap, v = .slice (.some ⟨g, 0, none⟩) l.length cap ∧ l.length ≤ cap ∧ b ≤ g ∧ g < w.heap.size := by
  obtain ⟨ad, cap, hv, hc, h2⟩ := h.form
  obtain ⟨g, rfl, hb, hg, _⟩ := h2 h0
  exact ⟨g, cap, hv, hc, hb, hg⟩
/-- Rules laid over a row from a place on. -/
theorem RowV.over {w w' : World} {b g n cap : Nat} {l : List Trn} (h : RowV w b (.slice (.some ⟨g, 0, none⟩) n cap) l) (p : Nat) (k : List Trn) (hf : p + k.length ≤ n)
    (hw : ∀ cur, w.heap[g]? = .some (.cells cur 95 (0, 0)) → w'.heap[g]? = .some (.cells (cur.toList.take (p * 2) ++ flatV k ++ cur.toList.drop (p * 2 + (flatV k).length)).toArray 95 (0, 0))) :
    RowV w' b (.slice (.some ⟨g, 0, none⟩) n cap) (l.take p ++ k ++ l.drop (p + k.length)) := by
  have hn : l.length = n := by
    rcases h.2 with ⟨hv, _⟩ | ⟨g', cap', cur, hv, _⟩
    · cases hv
    · cases hv; rfl
  subst hn
  have hlen : (l.take p ++ k ++ l.drop (p + k.length)).length = l.length := by simp; omega
  rcases h.2 with ⟨hv, _⟩ | ⟨g', cap', cur, hv, hb, hg, hc, hm, hs, ht⟩
  · cases hv
  · cases hv
    refine ⟨by rw [hlen, flatV_length, hlen], .inr ⟨g, cap, _, by rw [hlen], hb, hw cur hg, by rw [hlen]; exact hc, hm, ?_, ?_⟩⟩
    · rw [flatV_length]
      simp only [List.size_toArray, List.length_append, List.length_take, List.length_drop, Array.length_toList, flatV_length]
      omega
    · rw [hlen]
      have e1 : cur.toList.take (p * 2) = flatV (l.take p) := by
        rw [← flatV_take, ← ht, List.take_take]; congr 1; omega
      have e2 : (cur.toList.drop (p * 2 + (flatV k).length)).take (l.length * 2 - (p * 2 + (flatV k).length)) = flatV (l.drop (p + k.length)) := by
        rw [← flatV_drop, ← ht, List.drop_take, flatV_length]
        rw [show p * 2 + k.length * 2 = (p + k.length) * 2 by omega]
      have l1 : (flatV (l.take p)).length = p * 2 := by rw [flatV_length, List.length_take]; omega
      rw [e1, flatV_append, flatV_append, ← e2]
      have l2 := flatV_length k
      rw [List.take_append, List.take_of_length_le (by rw [List.length_append, l1, l2]; omega)]
      congr 2
      rw [List.length_append, l1]
/-- 'append' of a source to an owned row; where the new row lies. -/
theorem run_appendSV (w : World) (ty : TypeId) (b : Nat) (v : Value) (l : List Trn) (h : RowV w b v l) (u : Value) (k : List Trn) (hk : SrcV w u k) (hb : b ≤ w.heap.size) (hsz : l.length + k.length ≤ 4294967296) :
    ∃ v' w', (Builtin.append_ #[71, 71] ty #[v, u]).run Tryz.prog w = .ok v' w' ∧ RowV w' b v' (l ++ k) ∧ w.grownBy w' v.ownBlock ∧ (v'.ownBlock = v.ownBlock ∨ v'.ownBlock = .some w.heap.size) := by
  obtain ⟨i0, hi, hz0, hz1, hz2⟩ := info_parts infoV
  have hmx : l.length + k.length ≤ maxLen := by unfold maxLen; omega
  have hk' := hk
  obtain ⟨ad, c, rfl, hc, h2⟩ := hk
  cases ad with
  | none =>
    have h0 : k.length = 0 := by have := hc.1; have := hc.2 rfl; omega
    have hc0 : c = 0 := hc.2 rfl
    have hr := run_append_owned_none (P := Tryz.prog) (w := w) b 71 ty 95 i0 2 Tryz.underlying71 hi v l.length (flatV l) h
    rw [h0, hc0]
    refine ⟨v, w, hr, ?_, ⟨rfl, rfl, rfl, Nat.le_refl _, fun _ _ _ => rfl⟩, .inl rfl⟩
    rw [List.eq_nil_of_length_eq_zero h0, List.append_nil]
    exact h
  | some a =>
    have hfl : ∀ j x, (flatV k)[j]? = .some x → w.cell? (a.add j) = .some x := by
      by_cases h0 : 0 < k.length
      · obtain ⟨g, off, e, _⟩ := h2 h0
        cases e
        exact hk'.flat
      · rw [List.eq_nil_of_length_eq_zero (by omega : k.length = 0)]
        intro j x hx
        simp [flatV] at hx
    obtain ⟨v', w', hr, ho, hgr, _, hat⟩ := run_append_own_at (P := Tryz.prog) w b 71 ty 95 i0 (.agg #[.int .i64 0, .pointer none]) 2 16 Tryz.underlying71 hi hz0 hz1 hz2 rfl (by decide) v l.length (flatV l) h a k.length c (flatV k) (flatV_length k) hfl (flatV_one k) hmx (by omega) hb
    refine ⟨v', w', hr, ?_, hgr, hat⟩
    unfold RowV
    rw [List.length_append, flatV_append]
    exact ho
end Go.Proofs.YtfpmljgmfapoiaaGreat
/-
  A region that draws its order, whose operations are quiet but for the last, which waits for all others: one walk in the order of the text, then the last. No program is named here.
-/
namespace Go.Proofs.YtfpmljgmfapoiaaGreat
open Go.RowKit
set_option linter.unusedVariables false
set_option linter.unusedSimpArgs false

def edgesB (ops : Array Oper) : Bool := (List.range ops.size).all fun j => match ops[j]? with | some o => o.after.all (fun e => decide (e.on < j)) | none => true
def lastB (ops : Array Oper) (n : Nat) : Bool := (List.range n).all fun i => !((Region.ready .any ops (((Array.replicate (n + 1) true).setIfInBounds i false).setIfInBounds n false)).contains n)
theorem edges_out {ops : Array Oper} (h : edgesB ops = true) {j : Nat} {o : Oper} (ho : ops[j]? = some o) : ∀ e ∈ o.after, e.on < j := fun e he => by
  unfold edgesB at h
  rw [List.all_eq_true] at h
  have hj : j < ops.size := (Array.getElem?_eq_some_iff.1 ho).1
  have := h j (List.mem_range.2 hj)
  rw [ho] at this
  simp only [List.all_eq_true, Array.all_eq_true_iff_forall_mem, decide_eq_true_eq] at this
  exact this e he
theorem all_listed {ops : Array Oper} (hE : edgesB ops = true) {listed : Array Bool} (hr : Region.ready .any ops listed = []) : ∀ j, j < ops.size → listed.getD j true = true := by
  intro j
  induction j using Nat.strongRecOn with
  | ind j ih =>
    intro hj
    cases hv : listed.getD j true with
    | true => rfl
    | false =>
      exfalso
      have ho : ops[j]? = some ops[j] := Array.getElem?_eq_getElem hj
      have : j ∈ Region.ready .any ops listed := mem_ready.2 ⟨hv, _, ho, fun e he _ => by
        have h1 := edges_out hE ho e he
        have h2 := ih e.on h1 (by omega)
        have hs : j < listed.size := by
          rcases Nat.lt_or_ge j listed.size with h | h
          · exact h
          · rw [Array.getD_eq_getD_getElem?, Array.getElem?_eq_none h] at hv; cases hv
        rw [Array.getD_eq_getD_getElem?, Array.getElem?_eq_getElem (by omega)] at h2 ⊢
        exact h2⟩
      rw [hr] at this; cases this
section
variable {P : Program} {C : World → Prop} {Q' : Exit → Act → World → Prop} {l : List Oper} {o : Oper}
theorem any_last (hE : edgesB (l ++ [o]).toArray = true) (hN : (l ++ [o]).all (fun o => o.guard.isNone) = true) (hL : lastB (l ++ [o]).toArray l.length = true) :
    ∀ (fuel : Nat) (listed : Array Bool) (a : Act) (w : World), C w → listed.size = l.length →
      wpAnyQ P .any l.toArray C (fun a' => ∀ w', C w' → o.wp P a' w' (fun a'' w'' => Q' .normal a'' w'') Q') fuel listed a → wpAny P .any (l ++ [o]).toArray Q' (fuel + 1) (listed.push false) a w := by
  have hg : ∀ (i : Nat) (oi : Oper), (l ++ [o])[i]? = some oi → ∀ ys, Region.wanted oi ys = true := fun i oi hi ys => by
    rw [List.all_eq_true] at hN
    have := hN oi (List.mem_of_getElem? hi)
    unfold Region.wanted
    cases hgd : oi.guard with
    | none => rfl
    | some x => rw [hgd] at this; cases this
  have hat : ∀ i, i < l.length → (l ++ [o]).toArray[i]? = l.toArray[i]? := fun i hi => by simp [List.getElem?_append_left hi]
  have hn : (l ++ [o]).toArray[l.length]? = some o := by simp
  have hsub : ∀ {listed : Array Bool} {i : Nat}, listed.size = l.length → i < l.length → i ∈ Region.ready .any (l ++ [o]).toArray (listed.push false) → i ∈ Region.ready .any l.toArray listed := fun {listed i} hs hi h => by
    rw [mem_ready] at h ⊢
    obtain ⟨h1, oi, h2, h3⟩ := h
    have hb := edges_out hE h2
    rw [hat i hi] at h2
    refine ⟨?_, oi, h2, fun e he hbn => ?_⟩
    · rw [Array.getD_eq_getD_getElem?, Array.getElem?_push_lt (by omega)] at h1
      rw [Array.getD_eq_getD_getElem?, Array.getElem?_eq_getElem (by omega)]; exact h1
    · have h4 := h3 e he hbn
      have h5 := hb e he
      rw [Array.getD_eq_getD_getElem?, Array.getElem?_push_lt (by omega)] at h4
      rw [Array.getD_eq_getD_getElem?, Array.getElem?_eq_getElem (by omega)]; exact h4
  have hall : ∀ {listed : Array Bool}, listed.size = l.length → l.length ∈ Region.ready .any (l ++ [o]).toArray (listed.push false) → ∀ i, i < l.length → listed.getD i true = true := fun {listed} hs h i hi => by
    cases hv : listed.getD i true with
    | true => rfl
    | false =>
      exfalso
      unfold lastB at hL
      rw [List.all_eq_true] at hL
      have h1 := hL i (List.mem_range.2 hi)
      rw [Bool.not_eq_true', List.contains_eq_mem, decide_eq_false_iff_not] at h1
      apply h1
      obtain ⟨_, oi, h2, h3⟩ := mem_ready.1 h
      refine mem_ready.2 ⟨by simp [Array.getD_eq_getD_getElem?], oi, h2, fun e he hbn => ?_⟩
      have h4 := h3 e he hbn
      have h5 := edges_out hE h2 e he
      have h6 : e.on ≠ i := fun e' => by
        rw [e', Array.getD_eq_getD_getElem?, Array.getElem?_push_lt (by omega)] at h4
        rw [Array.getD_eq_getD_getElem?, Array.getElem?_eq_getElem (by omega)] at hv
        simp only [Option.getD_some] at h4 hv
        rw [hv] at h4; cases h4
      rw [Array.getD_eq_getD_getElem?, Array.getElem?_setIfInBounds_ne (by omega), Array.getElem?_setIfInBounds_ne (by omega)]
      rw [Array.getElem?_replicate, if_pos (by omega)]
      rfl
  have hlst : ∀ {listed : Array Bool} {a : Act} {w : World} (K : Act → World → Prop), C w → (∀ a w, Q' .normal a w → K a w) → (∀ w', C w' → o.wp P a w' (fun a'' w'' => Q' .normal a'' w'') Q') → wpOp P (l ++ [o]).toArray Q' l.length K a w := fun {listed a w} K hC hK hq => by
    unfold wpOp
    simp only [hn]
    rw [hg l.length o (by simp) _]
    simp only [if_true]
    refine .inl ?_
    have := hq w hC
    unfold Oper.wp at this ⊢
    generalize (execOp a.eval o).run P w = r at *
    cases r with
    | ok x w' =>
      cases x <;> simp only [Oper.upon] at this ⊢
      case value u => exact hK _ _ this
      case skip => exact hK _ _ this
      case defer d => exact hK _ _ this
      case enter f args =>
        refine this.mono fun e w'' he => ?_
        cases e with
        | returned u => exact hK _ _ he
        | panicked c => exact he
        | outgrown => exact he
      case row row args => exact Rows.mono this fun u w'' he => hK _ _ he
    | halt x w' =>
      cases x <;> simp only [Oper.upon] at this ⊢
      case panic u => exact this
      all_goals exact this
  have hend : ∀ {listed : Array Bool}, listed.size = l.length → l.length ∈ Region.ready .any (l ++ [o]).toArray (listed.push false) → Region.ready .any (l ++ [o]).toArray ((listed.push false).setIfInBounds l.length true) = [] := fun {listed} hs h => by
    rw [List.eq_nil_iff_forall_not_mem]
    intro i hi
    obtain ⟨h1, oi, h2, _⟩ := mem_ready.1 hi
    have hi' : i < l.length + 1 := by have := (Array.getElem?_eq_some_iff.1 h2).1; simpa using this
    rcases Nat.lt_or_ge i l.length with hlt | hge
    · have := hall hs h i hlt
      rw [Array.getD_eq_getD_getElem?, Array.getElem?_setIfInBounds_ne (by omega), Array.getElem?_push_lt (by omega)] at h1
      rw [Array.getD_eq_getD_getElem?, Array.getElem?_eq_getElem (by omega)] at this
      simp only [Option.getD_some] at h1 this
      rw [h1] at this; cases this
    · obtain rfl : i = l.length := by omega
      rw [Array.getD_eq_getD_getElem?, Array.getElem?_setIfInBounds_self_of_lt (by simp; omega)] at h1
      cases h1
  have hnil : ∀ {listed : Array Bool}, listed.size = l.length → Region.ready .any (l ++ [o]).toArray (listed.push false) ≠ [] := fun {listed} hs h => by
    have := all_listed hE h l.length (by simp)
    rw [Array.getD_eq_getD_getElem?, ← hs, Array.getElem?_push_size] at this
    cases this
  have hrl : ∀ {listed : Array Bool}, listed.size = l.length → l.length ∈ Region.ready .any (l ++ [o]).toArray (listed.push false) → Region.ready .any l.toArray listed = [] := fun {listed} hs h => by
    rw [List.eq_nil_iff_forall_not_mem]
    intro i hi
    obtain ⟨h1, oi, h2, _⟩ := mem_ready.1 hi
    have hi' : i < l.length := by have := (Array.getElem?_eq_some_iff.1 h2).1; simpa using this
    have := hall hs h i hi'
    rw [h1] at this; cases this
  have hbd : ∀ {listed : Array Bool} {i : Nat}, i ∈ Region.ready .any (l ++ [o]).toArray listed → i < l.length ∨ i = l.length := fun {listed i} hi => by
    obtain ⟨_, oi, h2, _⟩ := mem_ready.1 hi
    have : i < l.length + 1 := by have := (Array.getElem?_eq_some_iff.1 h2).1; simpa using this
    omega
  intro fuel
  induction fuel with
  | zero =>
    intro listed a w hC hs h
    refine ⟨fun h0 => absurd h0 (hnil hs), fun i hi => ?_⟩
    rcases hbd hi with hlt | rfl
    · have := hsub hs hlt hi
      rw [h.1] at this; cases this
    · exact hlst (listed := listed) _ hC (fun a w hq => ⟨hend hs hi, hq⟩) h.2
  | succ fuel ih =>
    intro listed a w hC hs h
    refine ⟨fun h0 => absurd h0 (hnil hs), fun i hi => ?_⟩
    rcases hbd hi with hlt | rfl
    · have h1 := h.2 i (hsub hs hlt hi)
      unfold qOp at h1
      unfold wpOp
      rw [hat i hlt]
      split
      · rename_i ho; rw [show l.toArray[i]? = some l[i] by simp [hlt]] at ho; cases ho
      · rename_i oi ho
        simp only [ho] at h1
        have hw := hg i oi (by rw [← hat i hlt] at ho; simpa using ho)
        rw [hw] at h1
        simp only [hw, if_true] at h1 ⊢
        refine .inl (Oper.wp_of_quiet hC (fun a' w' hC' h' => ?_) h1)
        have := ih (listed.setIfInBounds i true) a' w' hC' (by simpa using hs) h'
        rw [show (listed.push false).setIfInBounds i true = (listed.setIfInBounds i true).push false from by
          refine Array.ext_getElem? fun k => ?_
          have hil : i < listed.size := by omega
          by_cases e : i = k
          · subst e
            rw [Array.getElem?_setIfInBounds_self_of_lt (by simp; omega), Array.getElem?_push_lt (by simpa using hil)]
            simp
          · rw [Array.getElem?_setIfInBounds_ne e, Array.getElem?_push, Array.getElem?_push, Array.size_setIfInBounds, Array.getElem?_setIfInBounds_ne e]]
        exact this
    · exact hlst (listed := listed) _ hC (fun a w hq => ⟨fun _ => hq, fun j hj => by rw [hend hs hi] at hj; cases hj⟩) (h.1 (hrl hs hi))
theorem wp_region_last {id : Nat} {a : Act} {w : World} (hm : P.follows .mixedOrders = true) (hB : Region.lexB .any l.toArray = true) (hE : edgesB (l ++ [o]).toArray = true) (hN : (l ++ [o]).all (fun o => o.guard.isNone) = true) (hL : lastB (l ++ [o]).toArray l.length = true) (hC : C { w with drawn := w.drawn + 1 })
    (h : wpQuiet P l.toArray C (fun a' => ∀ w', C w' → o.wp P a' w' (fun a'' w'' => Q' .normal a'' w'') Q') l a) : (Code.region id (l ++ [o]).toArray true).wp P Q' a w := by
  simp only [Region.lexB, Bool.and_eq_true] at hB
  refine wp_region_any hm ?_
  have h1 := wpAnyQ_lex (C := C) (md := .any) hB.1 l 0 (Array.replicate l.length false) a (by simp) (by simpa using hB.2) h
  have h2 := any_last hE hN hL l.length (Array.replicate l.length false) a _ hC (by simp) h1
  have e : (Array.replicate l.length false).push false = Array.replicate (l ++ [o]).toArray.size false := by
    rw [← Array.replicate_succ]; simp
  rw [e] at h2
  simpa using h2
end
theorem split_last {L : List Oper} (h : L ≠ []) : L = L.dropLast ++ [L.getLast h] := (List.dropLast_concat_getLast h).symm
/-- The same, the class: worlds that part from W above W's blocks alone. -/
theorem wp_kin_last {P : Program} {id : Nat} {Q : Exit → Act → World → Prop} {a : Act} {w : World} {L : List Oper} (W : World) (hW : Below W.heap.size W w) (hne : L ≠ []) (hm : P.follows .mixedOrders = true) (hB : Region.lexB .any L.dropLast.toArray = true)
    (hE : edgesB L.toArray = true) (hN : L.all (fun o => o.guard.isNone) = true) (hL : lastB L.toArray L.dropLast.length = true)
    (h : wpQuiet P L.dropLast.toArray (fun w' => ∃ x : Kin W, w' = x.val) (fun a' => ∀ w', (∃ x : Kin W, w' = x.val) → (L.getLast hne).wp P a' w' (fun a'' w'' => Q .normal a'' w'') Q) L.dropLast a) : (Code.region id L.toArray true).wp P Q a w := by
  have e := split_last hne
  have := wp_region_last (P := P) (id := id) (Q' := Q) (a := a) (w := w) (l := L.dropLast) (o := L.getLast hne) (C := fun w' => ∃ x : Kin W, w' = x.val) hm hB (by rw [← e]; exact hE) (by rw [← e]; exact hN) (by rw [← e]; exact hL) ⟨⟨_, hW.drew⟩, rfl⟩ h
  rw [← e] at this
  exact this
end Go.Proofs.YtfpmljgmfapoiaaGreat
