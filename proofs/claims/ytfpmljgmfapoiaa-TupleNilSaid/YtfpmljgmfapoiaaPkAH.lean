/-
  PkAH: TpU TuQ TuK, one behind the other (tools/pack.py).
-/
import Derived.Test.YtfpmljgmfapoiaaPkAB
import Derived.Test.YtfpmljgmfapoiaaPkAG
import Derived.Test.YtfpmljgmfapoiaaPkAD
import Derived.Test.YtfpmljgmfapoiaaPkAE
/-
  Rows of spots and of turns. Written by tools/mkTpU.py, after the rows of rules.
-/
namespace Go.Proofs.Ytfpmljgmfapoiaa
open Go.RowKit
set_option linter.unusedVariables false
set_option linter.unusedSimpArgs false

/-- Where a rule stands: the tuple, the header. -/
abbrev Spt := Tp × Hx.Hd
/-- A table's turn: the least place of its rules, the block of the table. -/
abbrev Trn := Nat × Nat
def encO (p : Spt) : List Value := [.int .i64 p.1.a, .int .i64 p.1.b, .int .i64 p.1.c, .int .i64 p.1.d, .int .u8 p.1.m, .int .u32 p.2.s, .int .u32 p.2.d, .int .u16 p.2.p, .int .u16 p.2.q, .int .u8 p.2.r]
def flatO : List (Spt) → List Value
  | [] => []
  | p :: l => encO p ++ flatO l
theorem flatO_length (l : List (Spt)) : (flatO l).length = l.length * 10 := by
  induction l with
  | nil => rfl
  | cons p l ih => simp only [flatO, encO, List.length_append, List.length_cons, List.length_nil, ih]; omega
theorem flatO_append (l k : List (Spt)) : flatO (l ++ k) = flatO l ++ flatO k := by
  induction l with
  | nil => rfl
  | cons p l ih => simp only [flatO, List.cons_append, ih, List.append_assoc]
theorem flatO_one (l : List (Spt)) : ∀ u ∈ flatO l, u.oneCell' = true := by
  induction l with
  | nil => intro u hu; cases hu
  | cons p l ih =>
    intro u hu
    simp only [flatO, List.mem_append] at hu
    rcases hu with hu | hu
    · simp only [encO, List.mem_cons, List.not_mem_nil, or_false] at hu
      rcases hu with rfl | rfl | rfl | rfl | rfl | rfl | rfl | rfl | rfl | rfl <;> rfl
    · exact ih u hu
theorem flatO_at : ∀ (l : List (Spt)) (i : Nat) (h : i < l.length) (j : Nat) (hj : j < 10), (flatO l)[i * 10 + j]? = (encO (l[i]'h))[j]?
  | p :: l, 0, _, j, hj => by
    rw [Nat.zero_mul, Nat.zero_add]
    exact List.getElem?_append_left (by simp [encO]; omega)
  | p :: l, i + 1, h, j, hj => by
    have := flatO_at l i (by simpa using h) j hj
    show (encO p ++ flatO l)[(i + 1) * 10 + j]? = _
    rw [List.getElem?_append_right (by simp [encO]; omega), show (i + 1) * 10 + j - (encO p).length = i * 10 + j by simp [encO]; omega]
    exact this
theorem infoO : (Try.prog.info? 139).map (fun i => (i.zero, i.size, i.bytes)) = some (some (.agg #[.int .i64 0, .int .i64 0, .int .i64 0, .int .i64 0, .int .u8 0, .int .u32 0, .int .u32 0, .int .u16 0, .int .u16 0, .int .u8 0]), 10, 56) := by kernel_rfl
/-- The row v of w holds the list. -/
def RowO (w : World) (base : Nat) (v : Value) (l : List (Spt)) : Prop := w.ownsRow base 139 10 v l.length (flatO l)
theorem RowO.base {w : World} {b b' : Nat} {v : Value} {l : List (Spt)} (h : RowO w b v l) (hb : b' ≤ b) : RowO w b' v l := by
  refine ⟨h.1, ?_⟩
  rcases h.2 with h2 | ⟨g, cap, cur, hv, hg, r⟩
  · exact .inl h2
  · exact .inr ⟨g, cap, cur, hv, by omega, r⟩
theorem RowO.on {w w1 : World} {b : Nat} {v : Value} {l : List (Spt)} (h : RowO w b v l) (hb : Below w.heap.size w w1) : RowO w1 b v l := by
  refine ⟨h.1, ?_⟩
  rcases h.2 with h2 | ⟨g, cap, cur, hv, hg, hh, r⟩
  · exact .inl h2
  · exact .inr ⟨g, cap, cur, hv, hg, by rw [hb.block g (Array.getElem?_eq_some_iff.1 hh).1]; exact hh, r⟩
theorem RowO.alloc {w : World} {b : Nat} {v : Value} {l : List (Spt)} (h : RowO w b v l) (o : Obj) : RowO (w.alloc o) b v l := World.ownsRow.alloc h o
theorem RowO.drew {w : World} {b : Nat} {v : Value} {l : List (Spt)} (h : RowO w b v l) : RowO w.drew b v l := h
theorem RowO.nil (w : World) (b : Nat) : RowO w b (.slice none 0 0) [] := World.ownsRow_nil w b _ _
theorem RowO.one (w : World) (b : Nat) (p : Spt) (hb : b ≤ w.heap.size) : RowO (w.alloc (.cells #[.int .i64 p.1.a, .int .i64 p.1.b, .int .i64 p.1.c, .int .i64 p.1.d, .int .u8 p.1.m, .int .u32 p.2.s, .int .u32 p.2.d, .int .u16 p.2.p, .int .u16 p.2.q, .int .u8 p.2.r] 139)) b (.slice (some ⟨w.heap.size, 0, none⟩) 1 1) [p] :=
  World.ownsRow_lit w #[.int .i64 p.1.a, .int .i64 p.1.b, .int .i64 p.1.c, .int .i64 p.1.d, .int .u8 p.1.m, .int .u32 p.2.s, .int .u32 p.2.d, .int .u16 p.2.p, .int .u16 p.2.q, .int .u8 p.2.r] 1 hb (by simp [maxLen]) rfl
theorem RowO.lt {w : World} {b : Nat} {v : Value} {l : List (Spt)} (h : RowO w b v l) : ∀ k, v.ownBlock = some k → b ≤ k ∧ k < w.heap.size := World.ownsRow.lt h
theorem RowO.put {w : World} {b : Nat} {v : Value} {l : List (Spt)} (h : RowO w b v l) {g i : Nat} (hg : some g ≠ v.ownBlock) (u : Value) : RowO (w.setCell ⟨g, i, none⟩ u) b v l := by
  refine ⟨h.1, ?_⟩
  rcases h.2 with h2 | ⟨g', cap, cur, hv, hb, hh, r⟩
  · exact .inl h2
  · exact .inr ⟨g', cap, cur, hv, hb, by rw [Below.heap_setCell _ _ _ _ (by intro e; apply hg; rw [hv]; simp [Value.ownBlock, e])]; exact hh, r⟩
/-- What a row looks like. -/
theorem RowO.form {w : World} {b : Nat} {v : Value} {l : List (Spt)} (h : RowO w b v l) :
    ∃ (ad : Option Addr) (cap : Nat), v = .slice ad l.length cap ∧ l.length ≤ cap ∧ (0 < l.length → ∃ g, ad = some ⟨g, 0, none⟩ ∧ b ≤ g ∧ g < w.heap.size ∧ ∀ k (hk : k < l.length) j, j < 10 → w.cell? ⟨g, k * 10 + j, none⟩ = (encO (l[k]'hk))[j]?) := by
  rcases h.2 with ⟨hv, hn⟩ | ⟨g, cap, cur, hv, hb, hg, hcap, r⟩
  · exact ⟨none, 0, by rw [hv, hn], by omega, fun h0 => by omega⟩
  · subst hv
    refine ⟨_, cap, rfl, hcap, fun _ => ⟨g, rfl, hb, (Array.getElem?_eq_some_iff.1 hg).1, fun k hk j hj => ?_⟩⟩
    have h' : w.ownsRow b 139 10 (.slice (some ⟨g, 0, none⟩) l.length cap) l.length (flatO l) := h
    rw [h'.cellAt (k * 10 + j) (by omega), flatO_at l k hk j hj]
theorem RowO.frozen {w : World} {b g cap n : Nat} {l : List (Spt)} (h : RowO w b (.slice (some ⟨g, 0, none⟩) n cap) l) (j : Nat) : w.frozen? ⟨g, j, none⟩ = false := by
  rcases h.2 with ⟨hv, _⟩ | ⟨g', cap', cur, hv, hb, hg, r⟩
  · cases hv
  · cases hv; simp [World.frozen?, hg]

/-- The slice v of w reads as the list of rules. -/
def SrcO (w : World) (v : Value) (l : List Spt) : Prop :=
  ∃ (ad : Option Addr) (cap : Nat), v = .slice ad l.length cap ∧ (l.length ≤ cap ∧ (ad = none → cap = 0)) ∧ (0 < l.length → ∃ g off, ad = some ⟨g, off, none⟩ ∧ ∀ k (hk : k < l.length) j, j < 10 → w.cell? ⟨g, off + (k * 10 + j), none⟩ = (encO (l[k]'hk))[j]?)
theorem encO_some (R : Spt) {j : Nat} (h : j < 10) : ∃ v, (encO R)[j]? = some v := ⟨(encO R)[j]'(by simp [encO]; omega), List.getElem?_eq_getElem _⟩
theorem SrcO.keep {w w1 : World} {v : Value} {l : List Spt} (h : SrcO w v l) (hb : Below w.heap.size w w1) : SrcO w1 v l := by
  obtain ⟨ad, cap, rfl, hc, h2⟩ := h
  refine ⟨ad, cap, rfl, hc, fun h0 => ?_⟩
  obtain ⟨g, off, rfl, h3⟩ := h2 h0
  exact ⟨g, off, rfl, fun k hk j hj => by
    have := h3 k hk j hj
    obtain ⟨u, hu⟩ := encO_some (l[k]'hk) hj
    rw [hb.cell (World.block_lt_of_cell? w _ (this.trans hu))]; exact this⟩
/-- A source whose block stays. -/
theorem SrcO.stay {w w1 : World} {v : Value} {l : List Spt} (h : SrcO w v l) (hb : ∀ k, v.ownBlock = some k → k < w.heap.size → w1.heap[k]? = w.heap[k]?) : SrcO w1 v l := by
  obtain ⟨ad, cap, rfl, hc, h2⟩ := h
  refine ⟨ad, cap, rfl, hc, fun h0 => ?_⟩
  obtain ⟨g, off, rfl, h3⟩ := h2 h0
  exact ⟨g, off, rfl, fun k hk j hj => by
    have := h3 k hk j hj
    obtain ⟨u, hu⟩ := encO_some (l[k]'hk) hj
    have hlt := World.block_lt_of_cell? w _ (this.trans hu)
    rw [World.cell?_of_block (w := w) (a := ⟨g, off + (k * 10 + j), none⟩) (hb g rfl hlt)]; exact this⟩
theorem RowO.src {w : World} {b : Nat} {v : Value} {l : List Spt} (h : RowO w b v l) : SrcO w v l := by
  obtain ⟨ad, cap, hv, hc, h2⟩ := h.form
  refine ⟨ad, cap, hv, ⟨hc, fun e => ?_⟩, fun h0 => ?_⟩
  · subst e
    rcases h.2 with ⟨hv', _⟩ | ⟨g, cap', cur, hv', _⟩
    · rw [hv] at hv'; injection hv'
    · rw [hv] at hv'; cases hv'
  obtain ⟨g, e, _, _, h3⟩ := h2 h0
  exact ⟨g, 0, e, fun k hk j hj => by rw [Nat.zero_add]; exact h3 k hk j hj⟩
theorem SrcO.flat {w : World} {g off n cap : Nat} {l : List Spt} (h : SrcO w (.slice (some ⟨g, off, none⟩) n cap) l) : ∀ j u, (flatO l)[j]? = some u → w.cell? ((⟨g, off, none⟩ : Addr).add j) = some u := by
  intro j u hu
  obtain ⟨ad, c, e, hc, h2⟩ := h
  cases e
  have hj : j < (flatO l).length := (List.getElem?_eq_some_iff.1 hu).1
  rw [flatO_length] at hj
  obtain ⟨g', off', e', h3⟩ := h2 (by omega)
  cases e'
  have hk : j / 10 < l.length := by omega
  have hm : j % 10 < 10 := Nat.mod_lt _ (by decide)
  have e1 : j / 10 * 10 + j % 10 = j := by omega
  have h4 := flatO_at l (j / 10) hk (j % 10) hm
  rw [e1] at h4
  have h5 := h3 (j / 10) hk (j % 10) hm
  rw [e1] at h5
  rw [Addr.add_lit, h5, ← h4]
  exact hu
theorem flatO_take (l : List Spt) (p : Nat) : (flatO l).take (p * 10) = flatO (l.take p) := by
  by_cases h : p ≤ l.length
  · have e := flatO_append (l.take p) (l.drop p)
    rw [List.take_append_drop] at e
    rw [e]
    have hl : (flatO (l.take p)).length = p * 10 := by rw [flatO_length, List.length_take]; congr 1; omega
    rw [List.take_append_of_le_length (by omega), List.take_of_length_le (by omega)]
  · rw [List.take_of_length_le (by rw [flatO_length]; omega), List.take_of_length_le (by omega)]
theorem flatO_drop (l : List Spt) (p : Nat) : (flatO l).drop (p * 10) = flatO (l.drop p) := by
  by_cases h : p ≤ l.length
  · have e := flatO_append (l.take p) (l.drop p)
    rw [List.take_append_drop] at e
    rw [e]
    have hl : (flatO (l.take p)).length = p * 10 := by rw [flatO_length, List.length_take]; congr 1; omega
    rw [← hl, List.drop_left]
  · rw [List.drop_eq_nil_of_le (by rw [flatO_length]; omega), List.drop_eq_nil_of_le (by omega)]; rfl
/-- A row with something in it. -/
theorem RowO.some {w : World} {b : Nat} {v : Value} {l : List Spt} (h : RowO w b v l) (h0 : 0 < l.length) : ∃ g cap, v = .slice (.some ⟨g, 0, none⟩) l.length cap ∧ l.length ≤ cap ∧ b ≤ g ∧ g < w.heap.size := by
  obtain ⟨ad, cap, hv, hc, h2⟩ := h.form
  obtain ⟨g, rfl, hb, hg, _⟩ := h2 h0
  exact ⟨g, cap, hv, hc, hb, hg⟩
/-- Rules laid over a row from a place on. -/
theorem RowO.over {w w' : World} {b g n cap : Nat} {l : List Spt} (h : RowO w b (.slice (.some ⟨g, 0, none⟩) n cap) l) (p : Nat) (k : List Spt) (hf : p + k.length ≤ n)
    (hw : ∀ cur, w.heap[g]? = .some (.cells cur 139 (0, 0)) → w'.heap[g]? = .some (.cells (cur.toList.take (p * 10) ++ flatO k ++ cur.toList.drop (p * 10 + (flatO k).length)).toArray 139 (0, 0))) :
    RowO w' b (.slice (.some ⟨g, 0, none⟩) n cap) (l.take p ++ k ++ l.drop (p + k.length)) := by
  have hn : l.length = n := by
    rcases h.2 with ⟨hv, _⟩ | ⟨g', cap', cur, hv, _⟩
    · cases hv
    · cases hv; rfl
  subst hn
  have hlen : (l.take p ++ k ++ l.drop (p + k.length)).length = l.length := by simp; omega
  rcases h.2 with ⟨hv, _⟩ | ⟨g', cap', cur, hv, hb, hg, hc, hm, hs, ht⟩
  · cases hv
  · cases hv
    refine ⟨by rw [hlen, flatO_length, hlen], .inr ⟨g, cap, _, by rw [hlen], hb, hw cur hg, by rw [hlen]; exact hc, hm, ?_, ?_⟩⟩
    · rw [flatO_length]
      simp only [List.size_toArray, List.length_append, List.length_take, List.length_drop, Array.length_toList, flatO_length]
      omega
    · rw [hlen]
      have e1 : cur.toList.take (p * 10) = flatO (l.take p) := by
        rw [← flatO_take, ← ht, List.take_take]; congr 1; omega
      have e2 : (cur.toList.drop (p * 10 + (flatO k).length)).take (l.length * 10 - (p * 10 + (flatO k).length)) = flatO (l.drop (p + k.length)) := by
        rw [← flatO_drop, ← ht, List.drop_take, flatO_length]
        rw [show p * 10 + k.length * 10 = (p + k.length) * 10 by omega]
      have l1 : (flatO (l.take p)).length = p * 10 := by rw [flatO_length, List.length_take]; omega
      rw [e1, flatO_append, flatO_append, ← e2]
      have l2 := flatO_length k
      rw [List.take_append, List.take_of_length_le (by rw [List.length_append, l1, l2]; omega)]
      congr 2
      rw [List.length_append, l1]
/-- 'append' of a source to an owned row; where the new row lies. -/
theorem run_appendSO (w : World) (ty : TypeId) (b : Nat) (v : Value) (l : List Spt) (h : RowO w b v l) (u : Value) (k : List Spt) (hk : SrcO w u k) (hb : b ≤ w.heap.size) (hsz : l.length + k.length ≤ 4294967296) :
    ∃ v' w', (Builtin.append_ #[136, 136] ty #[v, u]).run Try.prog w = .ok v' w' ∧ RowO w' b v' (l ++ k) ∧ w.grownBy w' v.ownBlock ∧ (v'.ownBlock = v.ownBlock ∨ v'.ownBlock = .some w.heap.size) := by
  obtain ⟨i0, hi, hz0, hz1, hz2⟩ := info_parts infoO
  have hmx : l.length + k.length ≤ maxLen := by unfold maxLen; omega
  have hk' := hk
  obtain ⟨ad, c, rfl, hc, h2⟩ := hk
  cases ad with
  | none =>
    have h0 : k.length = 0 := by have := hc.1; have := hc.2 rfl; omega
    have hc0 : c = 0 := hc.2 rfl
    have hr := run_append_owned_none (P := Try.prog) (w := w) b 136 ty 139 i0 10 Try.underlying136 hi v l.length (flatO l) h
    rw [h0, hc0]
    refine ⟨v, w, hr, ?_, ⟨rfl, rfl, rfl, Nat.le_refl _, fun _ _ _ => rfl⟩, .inl rfl⟩
    rw [List.eq_nil_of_length_eq_zero h0, List.append_nil]
    exact h
  | some a =>
    have hfl : ∀ j x, (flatO k)[j]? = .some x → w.cell? (a.add j) = .some x := by
      by_cases h0 : 0 < k.length
      · obtain ⟨g, off, e, _⟩ := h2 h0
        cases e
        exact hk'.flat
      · rw [List.eq_nil_of_length_eq_zero (by omega : k.length = 0)]
        intro j x hx
        simp [flatO] at hx
    obtain ⟨v', w', hr, ho, hgr, _, hat⟩ := run_append_own_at (P := Try.prog) w b 136 ty 139 i0 (.agg #[.int .i64 0, .int .i64 0, .int .i64 0, .int .i64 0, .int .u8 0, .int .u32 0, .int .u32 0, .int .u16 0, .int .u16 0, .int .u8 0]) 10 56 Try.underlying136 hi hz0 hz1 hz2 rfl (by decide) v l.length (flatO l) h a k.length c (flatO k) (flatO_length k) hfl (flatO_one k) hmx (by omega) hb
    refine ⟨v', w', hr, ?_, hgr, hat⟩
    unfold RowO
    rw [List.length_append, flatO_append]
    exact ho
theorem wpList_appendSO {ops : Array Oper} {rest : List Oper} {o : Oper} {a : Act} {w : World} {Q : Exit → Act → World → Prop} (hgd : o.guard = none) (s x : Operand)
    (ho : o.op = .call { callee := .builtin .append, args := #[s, x], argTypes := #[136, 136] })
    (b : Nat) (v : Value) (l : List Spt) (hs : a.eval s = v) (h : RowO w b v l) (u : Value) (k : List Spt) (hx : a.eval x = u) (hk : SrcO w u k)
    (hb : b ≤ w.heap.size) (hsz : l.length + k.length ≤ 4294967296)
    (hK : ∀ v' w', RowO w' b v' (l ++ k) → w.grownBy w' v.ownBlock → (v'.ownBlock = v.ownBlock ∨ v'.ownBlock = .some w.heap.size) → wpList Try.prog ops Q rest (a.put o.dst v') w') : wpList Try.prog ops Q (o :: rest) a w := by
  refine wpList_plain hgd fun K hK' => ?_
  obtain ⟨v', w', hr, h2, h3, h4⟩ := run_appendSO w o.type b v l h u k hk hb hsz
  unfold Oper.wp execOp
  simp only [ho, resolve, invoke, builtin, Sem.run_bind, Sem.run_pure, Result.andThen_ok, List.map_toArray, List.map_cons, List.map_nil, hs, hx, hr]
  exact hK' _ _ (hK v' w' h2 h3 h4)
def encV (p : Trn) : List Value := [.int .i64 p.1, .pointer (some ⟨p.2, 0, none⟩)]
def flatV : List (Trn) → List Value
  | [] => []
  | p :: l => encV p ++ flatV l
theorem flatV_length (l : List (Trn)) : (flatV l).length = l.length * 2 := by
  induction l with
  | nil => rfl
  | cons p l ih => simp only [flatV, encV, List.length_append, List.length_cons, List.length_nil, ih]; omega
theorem flatV_append (l k : List (Trn)) : flatV (l ++ k) = flatV l ++ flatV k := by
  induction l with
  | nil => rfl
  | cons p l ih => simp only [flatV, List.cons_append, ih, List.append_assoc]
theorem flatV_one (l : List (Trn)) : ∀ u ∈ flatV l, u.oneCell' = true := by
  induction l with
  | nil => intro u hu; cases hu
  | cons p l ih =>
    intro u hu
    simp only [flatV, List.mem_append] at hu
    rcases hu with hu | hu
    · simp only [encV, List.mem_cons, List.not_mem_nil, or_false] at hu
      rcases hu with rfl | rfl <;> rfl
    · exact ih u hu
theorem flatV_at : ∀ (l : List (Trn)) (i : Nat) (h : i < l.length) (j : Nat) (hj : j < 2), (flatV l)[i * 2 + j]? = (encV (l[i]'h))[j]?
  | p :: l, 0, _, j, hj => by
    rw [Nat.zero_mul, Nat.zero_add]
    exact List.getElem?_append_left (by simp [encV]; omega)
  | p :: l, i + 1, h, j, hj => by
    have := flatV_at l i (by simpa using h) j hj
    show (encV p ++ flatV l)[(i + 1) * 2 + j]? = _
    rw [List.getElem?_append_right (by simp [encV]; omega), show (i + 1) * 2 + j - (encV p).length = i * 2 + j by simp [encV]; omega]
    exact this
theorem infoV : (Try.prog.info? 80).map (fun i => (i.zero, i.size, i.bytes)) = some (some (.agg #[.int .i64 0, .pointer none]), 2, 16) := by kernel_rfl
/-- The row v of w holds the list. -/
def RowV (w : World) (base : Nat) (v : Value) (l : List (Trn)) : Prop := w.ownsRow base 80 2 v l.length (flatV l)
theorem RowV.base {w : World} {b b' : Nat} {v : Value} {l : List (Trn)} (h : RowV w b v l) (hb : b' ≤ b) : RowV w b' v l := by
  refine ⟨h.1, ?_⟩
  rcases h.2 with h2 | ⟨g, cap, cur, hv, hg, r⟩
  · exact .inl h2
  · exact .inr ⟨g, cap, cur, hv, by omega, r⟩
theorem RowV.on {w w1 : World} {b : Nat} {v : Value} {l : List (Trn)} (h : RowV w b v l) (hb : Below w.heap.size w w1) : RowV w1 b v l := by
  refine ⟨h.1, ?_⟩
  rcases h.2 with h2 | ⟨g, cap, cur, hv, hg, hh, r⟩
  · exact .inl h2
  · exact .inr ⟨g, cap, cur, hv, hg, by rw [hb.block g (Array.getElem?_eq_some_iff.1 hh).1]; exact hh, r⟩
theorem RowV.alloc {w : World} {b : Nat} {v : Value} {l : List (Trn)} (h : RowV w b v l) (o : Obj) : RowV (w.alloc o) b v l := World.ownsRow.alloc h o
theorem RowV.drew {w : World} {b : Nat} {v : Value} {l : List (Trn)} (h : RowV w b v l) : RowV w.drew b v l := h
theorem RowV.nil (w : World) (b : Nat) : RowV w b (.slice none 0 0) [] := World.ownsRow_nil w b _ _
theorem RowV.one (w : World) (b : Nat) (p : Trn) (hb : b ≤ w.heap.size) : RowV (w.alloc (.cells #[.int .i64 p.1, .pointer (some ⟨p.2, 0, none⟩)] 80)) b (.slice (some ⟨w.heap.size, 0, none⟩) 1 1) [p] :=
  World.ownsRow_lit w #[.int .i64 p.1, .pointer (some ⟨p.2, 0, none⟩)] 1 hb (by simp [maxLen]) rfl
theorem RowV.lt {w : World} {b : Nat} {v : Value} {l : List (Trn)} (h : RowV w b v l) : ∀ k, v.ownBlock = some k → b ≤ k ∧ k < w.heap.size := World.ownsRow.lt h
theorem RowV.put {w : World} {b : Nat} {v : Value} {l : List (Trn)} (h : RowV w b v l) {g i : Nat} (hg : some g ≠ v.ownBlock) (u : Value) : RowV (w.setCell ⟨g, i, none⟩ u) b v l := by
  refine ⟨h.1, ?_⟩
  rcases h.2 with h2 | ⟨g', cap, cur, hv, hb, hh, r⟩
  · exact .inl h2
  · exact .inr ⟨g', cap, cur, hv, hb, by rw [Below.heap_setCell _ _ _ _ (by intro e; apply hg; rw [hv]; simp [Value.ownBlock, e])]; exact hh, r⟩
/-- What a row looks like. -/
theorem RowV.form {w : World} {b : Nat} {v : Value} {l : List (Trn)} (h : RowV w b v l) :
    ∃ (ad : Option Addr) (cap : Nat), v = .slice ad l.length cap ∧ l.length ≤ cap ∧ (0 < l.length → ∃ g, ad = some ⟨g, 0, none⟩ ∧ b ≤ g ∧ g < w.heap.size ∧ ∀ k (hk : k < l.length) j, j < 2 → w.cell? ⟨g, k * 2 + j, none⟩ = (encV (l[k]'hk))[j]?) := by
  rcases h.2 with ⟨hv, hn⟩ | ⟨g, cap, cur, hv, hb, hg, hcap, r⟩
  · exact ⟨none, 0, by rw [hv, hn], by omega, fun h0 => by omega⟩
  · subst hv
    refine ⟨_, cap, rfl, hcap, fun _ => ⟨g, rfl, hb, (Array.getElem?_eq_some_iff.1 hg).1, fun k hk j hj => ?_⟩⟩
    have h' : w.ownsRow b 80 2 (.slice (some ⟨g, 0, none⟩) l.length cap) l.length (flatV l) := h
    rw [h'.cellAt (k * 2 + j) (by omega), flatV_at l k hk j hj]
theorem RowV.frozen {w : World} {b g cap n : Nat} {l : List (Trn)} (h : RowV w b (.slice (some ⟨g, 0, none⟩) n cap) l) (j : Nat) : w.frozen? ⟨g, j, none⟩ = false := by
  rcases h.2 with ⟨hv, _⟩ | ⟨g', cap', cur, hv, hb, hg, r⟩
  · cases hv
  · cases hv; simp [World.frozen?, hg]

/-- The slice v of w reads as the list of rules. -/
def SrcV (w : World) (v : Value) (l : List Trn) : Prop :=
  ∃ (ad : Option Addr) (cap : Nat), v = .slice ad l.length cap ∧ (l.length ≤ cap ∧ (ad = none → cap = 0)) ∧ (0 < l.length → ∃ g off, ad = some ⟨g, off, none⟩ ∧ ∀ k (hk : k < l.length) j, j < 2 → w.cell? ⟨g, off + (k * 2 + j), none⟩ = (encV (l[k]'hk))[j]?)
theorem encV_some (R : Trn) {j : Nat} (h : j < 2) : ∃ v, (encV R)[j]? = some v := ⟨(encV R)[j]'(by simp [encV]; omega), List.getElem?_eq_getElem _⟩
theorem SrcV.keep {w w1 : World} {v : Value} {l : List Trn} (h : SrcV w v l) (hb : Below w.heap.size w w1) : SrcV w1 v l := by
  obtain ⟨ad, cap, rfl, hc, h2⟩ := h
  refine ⟨ad, cap, rfl, hc, fun h0 => ?_⟩
  obtain ⟨g, off, rfl, h3⟩ := h2 h0
  exact ⟨g, off, rfl, fun k hk j hj => by
    have := h3 k hk j hj
    obtain ⟨u, hu⟩ := encV_some (l[k]'hk) hj
    rw [hb.cell (World.block_lt_of_cell? w _ (this.trans hu))]; exact this⟩
/-- A source whose block stays. -/
theorem SrcV.stay {w w1 : World} {v : Value} {l : List Trn} (h : SrcV w v l) (hb : ∀ k, v.ownBlock = some k → k < w.heap.size → w1.heap[k]? = w.heap[k]?) : SrcV w1 v l := by
  obtain ⟨ad, cap, rfl, hc, h2⟩ := h
  refine ⟨ad, cap, rfl, hc, fun h0 => ?_⟩
  obtain ⟨g, off, rfl, h3⟩ := h2 h0
  exact ⟨g, off, rfl, fun k hk j hj => by
    have := h3 k hk j hj
    obtain ⟨u, hu⟩ := encV_some (l[k]'hk) hj
    have hlt := World.block_lt_of_cell? w _ (this.trans hu)
    rw [World.cell?_of_block (w := w) (a := ⟨g, off + (k * 2 + j), none⟩) (hb g rfl hlt)]; exact this⟩
theorem RowV.src {w : World} {b : Nat} {v : Value} {l : List Trn} (h : RowV w b v l) : SrcV w v l := by
  obtain ⟨ad, cap, hv, hc, h2⟩ := h.form
  refine ⟨ad, cap, hv, ⟨hc, fun e => ?_⟩, fun h0 => ?_⟩
  · subst e
    rcases h.2 with ⟨hv', _⟩ | ⟨g, cap', cur, hv', _⟩
    · rw [hv] at hv'; injection hv'
    · rw [hv] at hv'; cases hv'
  obtain ⟨g, e, _, _, h3⟩ := h2 h0
  exact ⟨g, 0, e, fun k hk j hj => by rw [Nat.zero_add]; exact h3 k hk j hj⟩
theorem SrcV.flat {w : World} {g off n cap : Nat} {l : List Trn} (h : SrcV w (.slice (some ⟨g, off, none⟩) n cap) l) : ∀ j u, (flatV l)[j]? = some u → w.cell? ((⟨g, off, none⟩ : Addr).add j) = some u := by
  intro j u hu
  obtain ⟨ad, c, e, hc, h2⟩ := h
  cases e
  have hj : j < (flatV l).length := (List.getElem?_eq_some_iff.1 hu).1
  rw [flatV_length] at hj
  obtain ⟨g', off', e', h3⟩ := h2 (by omega)
  cases e'
  have hk : j / 2 < l.length := by omega
  have hm : j % 2 < 2 := Nat.mod_lt _ (by decide)
  have e1 : j / 2 * 2 + j % 2 = j := by omega
  have h4 := flatV_at l (j / 2) hk (j % 2) hm
  rw [e1] at h4
  have h5 := h3 (j / 2) hk (j % 2) hm
  rw [e1] at h5
  rw [Addr.add_lit, h5, ← h4]
  exact hu
theorem flatV_take (l : List Trn) (p : Nat) : (flatV l).take (p * 2) = flatV (l.take p) := by
  by_cases h : p ≤ l.length
  · have e := flatV_append (l.take p) (l.drop p)
    rw [List.take_append_drop] at e
    rw [e]
    have hl : (flatV (l.take p)).length = p * 2 := by rw [flatV_length, List.length_take]; congr 1; omega
    rw [List.take_append_of_le_length (by omega), List.take_of_length_le (by omega)]
  · rw [List.take_of_length_le (by rw [flatV_length]; omega), List.take_of_length_le (by omega)]
theorem flatV_drop (l : List Trn) (p : Nat) : (flatV l).drop (p * 2) = flatV (l.drop p) := by
  by_cases h : p ≤ l.length
  · have e := flatV_append (l.take p) (l.drop p)
    rw [List.take_append_drop] at e
    rw [e]
    have hl : (flatV (l.take p)).length = p * 2 := by rw [flatV_length, List.length_take]; congr 1; omega
    rw [← hl, List.drop_left]
  · rw [List.drop_eq_nil_of_le (by rw [flatV_length]; omega), List.drop_eq_nil_of_le (by omega)]; rfl
/-- A row with something in it. -/
theorem RowV.some {w : World} {b : Nat} {v : Value} {l : List Trn} (h : RowV w b v l) (h0 : 0 < l.length) : ∃ g cap, v = .slice (.some ⟨g, 0, none⟩) l.length cap ∧ l.length ≤ cap ∧ b ≤ g ∧ g < w.heap.size := by
  obtain ⟨ad, cap, hv, hc, h2⟩ := h.form
  obtain ⟨g, rfl, hb, hg, _⟩ := h2 h0
  exact ⟨g, cap, hv, hc, hb, hg⟩
/-- Rules laid over a row from a place on. -/
theorem RowV.over {w w' : World} {b g n cap : Nat} {l : List Trn} (h : RowV w b (.slice (.some ⟨g, 0, none⟩) n cap) l) (p : Nat) (k : List Trn) (hf : p + k.length ≤ n)
    (hw : ∀ cur, w.heap[g]? = .some (.cells cur 80 (0, 0)) → w'.heap[g]? = .some (.cells (cur.toList.take (p * 2) ++ flatV k ++ cur.toList.drop (p * 2 + (flatV k).length)).toArray 80 (0, 0))) :
    RowV w' b (.slice (.some ⟨g, 0, none⟩) n cap) (l.take p ++ k ++ l.drop (p + k.length)) := by
  have hn : l.length = n := by
    rcases h.2 with ⟨hv, _⟩ | ⟨g', cap', cur, hv, _⟩
    · cases hv
    · cases hv; rfl
  subst hn
  have hlen : (l.take p ++ k ++ l.drop (p + k.length)).length = l.length := by simp; omega
  rcases h.2 with ⟨hv, _⟩ | ⟨g', cap', cur, hv, hb, hg, hc, hm, hs, ht⟩
  · cases hv
  · cases hv
    refine ⟨by rw [hlen, flatV_length, hlen], .inr ⟨g, cap, _, by rw [hlen], hb, hw cur hg, by rw [hlen]; exact hc, hm, ?_, ?_⟩⟩
    · rw [flatV_length]
      simp only [List.size_toArray, List.length_append, List.length_take, List.length_drop, Array.length_toList, flatV_length]
      omega
    · rw [hlen]
      have e1 : cur.toList.take (p * 2) = flatV (l.take p) := by
        rw [← flatV_take, ← ht, List.take_take]; congr 1; omega
      have e2 : (cur.toList.drop (p * 2 + (flatV k).length)).take (l.length * 2 - (p * 2 + (flatV k).length)) = flatV (l.drop (p + k.length)) := by
        rw [← flatV_drop, ← ht, List.drop_take, flatV_length]
        rw [show p * 2 + k.length * 2 = (p + k.length) * 2 by omega]
      have l1 : (flatV (l.take p)).length = p * 2 := by rw [flatV_length, List.length_take]; omega
      rw [e1, flatV_append, flatV_append, ← e2]
      have l2 := flatV_length k
      rw [List.take_append, List.take_of_length_le (by rw [List.length_append, l1, l2]; omega)]
      congr 2
      rw [List.length_append, l1]
/-- 'append' of a source to an owned row; where the new row lies. -/
theorem run_appendSV (w : World) (ty : TypeId) (b : Nat) (v : Value) (l : List Trn) (h : RowV w b v l) (u : Value) (k : List Trn) (hk : SrcV w u k) (hb : b ≤ w.heap.size) (hsz : l.length + k.length ≤ 4294967296) :
    ∃ v' w', (Builtin.append_ #[71, 71] ty #[v, u]).run Try.prog w = .ok v' w' ∧ RowV w' b v' (l ++ k) ∧ w.grownBy w' v.ownBlock ∧ (v'.ownBlock = v.ownBlock ∨ v'.ownBlock = .some w.heap.size) := by
  obtain ⟨i0, hi, hz0, hz1, hz2⟩ := info_parts infoV
  have hmx : l.length + k.length ≤ maxLen := by unfold maxLen; omega
  have hk' := hk
  obtain ⟨ad, c, rfl, hc, h2⟩ := hk
  cases ad with
  | none =>
    have h0 : k.length = 0 := by have := hc.1; have := hc.2 rfl; omega
    have hc0 : c = 0 := hc.2 rfl
    have hr := run_append_owned_none (P := Try.prog) (w := w) b 71 ty 80 i0 2 Try.underlying71 hi v l.length (flatV l) h
    rw [h0, hc0]
    refine ⟨v, w, hr, ?_, ⟨rfl, rfl, rfl, Nat.le_refl _, fun _ _ _ => rfl⟩, .inl rfl⟩
    rw [List.eq_nil_of_length_eq_zero h0, List.append_nil]
    exact h
  | some a =>
    have hfl : ∀ j x, (flatV k)[j]? = .some x → w.cell? (a.add j) = .some x := by
      by_cases h0 : 0 < k.length
      · obtain ⟨g, off, e, _⟩ := h2 h0
        cases e
        exact hk'.flat
      · rw [List.eq_nil_of_length_eq_zero (by omega : k.length = 0)]
        intro j x hx
        simp [flatV] at hx
    obtain ⟨v', w', hr, ho, hgr, _, hat⟩ := run_append_own_at (P := Try.prog) w b 71 ty 80 i0 (.agg #[.int .i64 0, .pointer none]) 2 16 Try.underlying71 hi hz0 hz1 hz2 rfl (by decide) v l.length (flatV l) h a k.length c (flatV k) (flatV_length k) hfl (flatV_one k) hmx (by omega) hb
    refine ⟨v', w', hr, ?_, hgr, hat⟩
    unfold RowV
    rw [List.length_append, flatV_append]
    exact ho
end Go.Proofs.Ytfpmljgmfapoiaa
/-
  Rows of rules that are read.
-/
namespace Go.Proofs.Ytfpmljgmfapoiaa
open Go.RowKit
set_option linter.unusedVariables false
set_option linter.unusedSimpArgs false

theorem rngU {w : World} {ad : Option Addr} {n cap : Nat} {l : List Ru} (h : SrcU w (.slice ad n cap) l) : n = l.length ∧ (∀ W, Below w.heap.size w W → ∀ k (hk : k < l.length), ∃ g off, ad = some ⟨g, off, none⟩ ∧ ∀ j u, (encU (l[k]'hk))[j]? = some u → W.cell? ⟨g, off + k * 12 + j, none⟩ = some u) := by
  obtain ⟨ad', cap', e, hc, h2⟩ := h
  obtain ⟨rfl, e2, rfl⟩ : ad = ad' ∧ n = l.length ∧ cap = cap' := by cases e; exact ⟨rfl, rfl, rfl⟩
  refine ⟨e2, fun W hb k hk => ?_⟩
  obtain ⟨g, off, e, h3⟩ := h2 (by omega)
  refine ⟨g, off, e, fun j u hu => ?_⟩
  have hj : j < 12 := by
    have := (List.getElem?_eq_some_iff.1 hu).1
    simpa [encU] using this
  have := h3 k hk j hj
  rw [show off + k * 12 + j = off + (k * 12 + j) by omega]
  exact cell_on1 hb (this.trans hu)
end Go.Proofs.Ytfpmljgmfapoiaa
/-
  nest's check. Out of NqK.
-/
namespace Go.Proofs.Ytfpmljgmfapoiaa
open Go.RowKit
set_option linter.unusedVariables false
set_option linter.unusedSimpArgs false


set_option maxRecDepth 20000 in
set_option maxHeartbeats 2000000 in
theorem nIdC (x : Int) (R : Ru) (B : Nat) (w : World) (hB : w.cell? ⟨B, 0, none⟩ = some (.int .i64 x)) :
    Calls Try.prog 66 #[.agg #[.int .i64 R.i, .int .u32 R.s, .int .i64 R.sl, .int .u32 R.d, .int .i64 R.dl, .int .u16 R.p.1, .int .u16 R.p.2, .int .u16 R.q.1, .int .u16 R.q.2, .int .u8 R.m.1, .int .u8 R.m.2, .int .i64 R.act], .pointer (some ⟨B, 0, none⟩)] w fun e w' => e = .returned (.bool (decide (R.i = x))) ∧ Below w.heap.size w w' := by
  have hB2 := fun o => cell_on1 ((Below.refl _ w).alloc (Nat.le_refl _) o) hB
  obtain ⟨b, hb⟩ : ∃ b, b = decide (R.i = x) := ⟨_, rfl⟩
  have hb' : (R.i == x) = b := by rw [hb]; rfl
  rw [← hb]
  have hlt := World.block_lt_of_cell? w _ hB
  have hne : ¬ B = w.heap.size := by simp at hlt; omega
  clear hb
  go_enter Try.func66, Try.ntmps66
  go_wp2
  go_ret
  exact ⟨by simp [← hb'], (Below.refl _ _).alloc (Nat.le_refl _) _⟩
set_option maxRecDepth 20000 in
set_option maxHeartbeats 8000000 in
theorem nIndexC (v : Value) (l : List Ru) (x : Int) (B : Nat) (w : World) (hs : SrcU w v l) (hB : w.cell? ⟨B, 0, none⟩ = some (.int .i64 x)) (hl : l.length ≤ 200000) :
    Calls Try.prog 51 #[v, .func (.func 66) #[] #[.pointer (some ⟨B, 0, none⟩)]] w fun e w' => e = .returned (.int .i64 (fnd l x)) ∧ Below w.heap.size w w' := by
  obtain ⟨ad, cap, rfl, hcap, hat⟩ := hs
  obtain ⟨A, hA⟩ : ∃ A, A = fnd l x := ⟨_, rfl⟩
  rw [← hA]
  have HA : Hid (A = fndK x (l.drop 0) 0) := hA
  clear hA
  obtain ⟨n, hn⟩ : ∃ n, n = l.length := ⟨_, rfl⟩
  have Hn : Hid (n = l.length) := hn
  have HAt : Hid (∀ (W : World), Below w.heap.size w W → ∀ k (hk : k < l.length), ∃ g off, ad = some ⟨g, off, none⟩ ∧ g < W.heap.size ∧ ∀ j, j < 12 → W.cell? ⟨g, off + (k * 12 + j), none⟩ = (encU (l[k]'hk))[j]?) := fun W hb k hk => by
    obtain ⟨g, off, e, h3⟩ := hat (by omega)
    have h0 := h3 k hk 0 (by decide)
    have hg : g < w.heap.size := World.block_lt_of_cell? w _ (h0.trans rfl)
    exact ⟨g, off, e, by have := hb.size; omega, fun j hj => by
      have := h3 k hk j hj
      obtain ⟨u, hu⟩ := encU_some (l[k]'hk) hj
      rw [hb.cell (p := ⟨g, off + (k * 12 + j), none⟩) hg]; exact this⟩
  have HI : Hid (∀ (W : World) (R : Ru), Below w.heap.size w W → Calls Try.prog 66 #[.agg #[.int .i64 R.i, .int .u32 R.s, .int .i64 R.sl, .int .u32 R.d, .int .i64 R.dl, .int .u16 R.p.1, .int .u16 R.p.2, .int .u16 R.q.1, .int .u16 R.q.2, .int .u8 R.m.1, .int .u8 R.m.2, .int .i64 R.act], .pointer (some ⟨B, 0, none⟩)] W fun e w' => e = .returned (.bool (decide (R.i = x))) ∧ Below W.heap.size W w') := fun W R hb => nIdC x R B W (cell_on1 hb hB)
  rw [← hn] at hl hcap ⊢
  have hn0 : (n : Int) ≤ 200000 := by omega
  clear hn hat hB
  go_enter Try.func51, Try.ntmps51
  go_wp2_with (fail)
  go_loopw [8] (fun i wr => ∃ k : Nat, k ≤ n ∧ i = .int .i64 k ∧ Hid (Below w.heap.size w wr) ∧ Hid (A = fndK x (l.drop k) k)) (fun i _ => n - (intOf i).toNat)
  case atStart => exact ⟨0, Nat.zero_le _, rfl, Below.refl _ _, HA.out⟩
  case round =>
    obtain ⟨k, hk, rfl, HB, HK⟩ := hrel
    by_cases hlt : k < n
    · have hkl : k < l.length := by rw [← Hn.out]; exact hlt
      obtain ⟨g, off, rfl, hg, hc⟩ := HAt.out wr HB.out k hkl
      obtain ⟨p, hp⟩ : ∃ p, p = l[k]'hkl := ⟨_, rfl⟩
      rw [← hp] at hc
      have x0 : wr.cell? ⟨g, off + k * 12, none⟩ = some (.int .i64 p.i) := hc 0 (by decide)
      have x1 : wr.cell? ⟨g, off + k * 12 + 1, none⟩ = some (.int .u32 p.s) := hc 1 (by decide)
      have x2 : wr.cell? ⟨g, off + k * 12 + 2, none⟩ = some (.int .i64 p.sl) := hc 2 (by decide)
      have x3 : wr.cell? ⟨g, off + k * 12 + 3, none⟩ = some (.int .u32 p.d) := hc 3 (by decide)
      have x4 : wr.cell? ⟨g, off + k * 12 + 4, none⟩ = some (.int .i64 p.dl) := hc 4 (by decide)
      have x5 : wr.cell? ⟨g, off + k * 12 + 5, none⟩ = some (.int .u16 p.p.1) := hc 5 (by decide)
      have x6 : wr.cell? ⟨g, off + k * 12 + 6, none⟩ = some (.int .u16 p.p.2) := hc 6 (by decide)
      have x7 : wr.cell? ⟨g, off + k * 12 + 7, none⟩ = some (.int .u16 p.q.1) := hc 7 (by decide)
      have x8 : wr.cell? ⟨g, off + k * 12 + 8, none⟩ = some (.int .u16 p.q.2) := hc 8 (by decide)
      have x9 : wr.cell? ⟨g, off + k * 12 + 9, none⟩ = some (.int .u8 p.m.1) := hc 9 (by decide)
      have x10 : wr.cell? ⟨g, off + k * 12 + 10, none⟩ = some (.int .u8 p.m.2) := hc 10 (by decide)
      have x11 : wr.cell? ⟨g, off + k * 12 + 11, none⟩ = some (.int .i64 p.act) := hc 11 (by decide)
      have hlt' : (k : Int) < (n : Int) := by omega
      have hI := HI.out wr p HB.out
      clear hc HI
      by_cases hx : p.i = x
      · have HV : Hid (A = (k : Int)) := HK.out.trans (fndK_hit hkl (by rw [← hp]; exact hx))
        rw [decide_eq_true hx] at hI
        clear hp hx HK HA HAt
        go_wp2_with (fail)
        refine hI.mono ?_
        rintro e w1 ⟨rfl, hb1⟩
        have HB1 : Hid (Below w.heap.size w w1) := HB.out.trans (hb1.mono HB.out.size)
        clear hb1 x0 x1 x2 x3 x4 x5 x6 x7 x8 x9 x10 x11
        go_wp2_with (fail)
        go_ret
        exact ⟨ret_int HV.out.symm, HB1.out⟩
      · have HK2 : Hid (A = fndK x (l.drop (k + 1)) (k + 1)) := HK.out.trans (fndK_no hkl (by rw [← hp]; exact hx))
        rw [decide_eq_false hx] at hI
        clear hp hx HK HA HAt hkl
        go_wp2_with (fail)
        refine hI.mono ?_
        rintro e w1 ⟨rfl, hb1⟩
        have HB1 : Hid (Below w.heap.size w w1) := HB.out.trans (hb1.mono HB.out.size)
        clear hb1 x0 x1 x2 x3 x4 x5 x6 x7 x8 x9 x10 x11
        go_wp2_with (fail)
        go_roundw
        case rel => exact ⟨k + 1, by omega, by go_num, HB1.out, HK2.out⟩
        case measure => simp [intOf]; omega
    · obtain rfl : k = n := by omega
      have HV : Hid (A = -1) := HK.out.trans (fndK_end (by rw [← Hn.out]; exact Nat.le_refl _))
      clear HK HA HAt HI
      go_wp2_with (fail)
      go_ret
      exact ⟨ret_int HV.out.symm, HB.out⟩

theorem containsC (v : Value) (l : List Ru) (x : Int) (B : Nat) (w : World) (hs : SrcU w v l) (hB : w.cell? ⟨B, 0, none⟩ = some (.int .i64 x)) (hl : l.length ≤ 200000) :
    Calls Try.prog 65 #[v, .func (.func 66) #[] #[.pointer (some ⟨B, 0, none⟩)]] w fun e w' => e = .returned (.bool (decide (0 ≤ fnd l x))) ∧ Below w.heap.size w w' := by
  have hI := nIndexC v l x B w hs hB hl
  generalize fnd l x = F at *
  clear hs
  go_enter Try.func65, Try.ntmps65
  go_wp2_with (go_at_call 51; fail)
  refine hI.mono ?_
  rintro e w1 ⟨rfl, hb1⟩
  have HB1 : Hid (Below w.heap.size w w1) := hb1
  clear hb1 hI
  go_wp2
  go_ret
  exact ⟨rfl, HB1.out⟩
theorem nCutH (w : World) (ad : Option Addr) (n cap h : Nat) (h2 : h ≤ cap) : (Instr.sliceAt 46 (.slice ad n cap) none (some (.int .i64 h)) none).run Try.prog w = .ok (.slice ad h cap) w := by
  rw [run_cut_h w ad n cap h h2, cutU_zero]
set_option maxRecDepth 20000 in
set_option maxHeartbeats 4000000 in
theorem checkLC (l : List Ru) (v : Value) (w : World) (hs : SrcU w v l) (hl : l.length ≤ 16777216) (hb : ∀ R ∈ l, BdR R) :
    Calls Try.prog 55 #[v] w fun e w' => e = .returned (.int .i64 (setE l 64)) ∧ Below w.heap.size w w' := by
  have HS : Hid (SrcU w v l) := hs
  have HBd : Hid (∀ R ∈ l, BdR R) := hb
  obtain ⟨ad, cap, rfl, hcp, _⟩ := hs
  have Hcap : Hid (l.length ≤ cap) := hcp.1
  obtain ⟨n, hn⟩ : ∃ n, n = l.length := ⟨_, rfl⟩
  rw [← hn] at HS hl Hcap ⊢
  have Hn : Hid (n = l.length) := hn
  obtain ⟨A, hA⟩ : ∃ A, A = setE l 64 := ⟨_, rfl⟩
  have HA : Hid (A = setK 64 (l.take 0) (l.drop 0)) := hA
  rw [← hA]
  clear hn hb hcp hA
  go_enter Try.func55, Try.ntmps55
  go_wp2_with (fail)
  go_loopw [9] (fun vi wr => ∃ k : Nat, k ≤ n ∧ k ≤ 64 ∧ vi = .int .i64 k ∧ Hid (A = setK 64 (l.take k) (l.drop k)) ∧ Hid (Below w.heap.size w wr)) (fun vi _ => n - (intOf vi).toNat)
  case atStart => exact ⟨0, Nat.zero_le _, Nat.zero_le _, rfl, HA.out, Below.refl _ _⟩
  case round =>
    obtain ⟨k, hk, hk64, rfl, HK, HB⟩ := hrel
    clear HA
    by_cases hlt : k < n
    · have hlt' : k < l.length := by rw [← Hn.out]; exact hlt
      have hlti : (k : Int) < (n : Int) := by omega
      obtain ⟨g, off, rfl, hrg⟩ := (rngU HS.out).2 wr HB.out k hlt'
      have hbd := HBd.out _ (List.getElem_mem hlt')
      have hbad := fun e => setK_bad (l := l) (M := 64) hlt' e
      have hful := fun e h => setK_full (l := l) (M := 64) hlt' e h
      have hnxt := fun e h => setK_next (l := l) (M := 64) hlt' e h
      obtain ⟨p, hp⟩ : ∃ p, p = l[k] := ⟨_, rfl⟩
      rw [← hp] at hrg hbd hbad hful hnxt
      have HK2 : Hid (∀ q, q = l[k] → True) := fun _ _ => trivial
      clear hp
      have x0 : wr.cell? ⟨g, off + k * 12, none⟩ = some (.int .i64 p.i) := hrg 0 _ rfl
      have x1 : wr.cell? ⟨g, off + k * 12 + 1, none⟩ = some (.int .u32 p.s) := hrg 1 _ rfl
      have x2 : wr.cell? ⟨g, off + k * 12 + 2, none⟩ = some (.int .i64 p.sl) := hrg 2 _ rfl
      have x3 : wr.cell? ⟨g, off + k * 12 + 3, none⟩ = some (.int .u32 p.d) := hrg 3 _ rfl
      have x4 : wr.cell? ⟨g, off + k * 12 + 4, none⟩ = some (.int .i64 p.dl) := hrg 4 _ rfl
      have x5 : wr.cell? ⟨g, off + k * 12 + 5, none⟩ = some (.int .u16 p.p.1) := hrg 5 _ rfl
      have x6 : wr.cell? ⟨g, off + k * 12 + 6, none⟩ = some (.int .u16 p.p.2) := hrg 6 _ rfl
      have x7 : wr.cell? ⟨g, off + k * 12 + 7, none⟩ = some (.int .u16 p.q.1) := hrg 7 _ rfl
      have x8 : wr.cell? ⟨g, off + k * 12 + 8, none⟩ = some (.int .u16 p.q.2) := hrg 8 _ rfl
      have x9 : wr.cell? ⟨g, off + k * 12 + 9, none⟩ = some (.int .u8 p.m.1) := hrg 9 _ rfl
      have x10 : wr.cell? ⟨g, off + k * 12 + 10, none⟩ = some (.int .u8 p.m.2) := hrg 10 _ rfl
      have x11 : wr.cell? ⟨g, off + k * 12 + 11, none⟩ = some (.int .i64 p.act) := hrg 11 _ rfl
      have hC := fun W => checkRC p W hbd
      have HX : Hid ((wr.alloc (.cells #[.int .i64 p.i, .int .u32 p.s, .int .i64 p.sl, .int .u32 p.d, .int .i64 p.dl, .int .u16 p.p.1, .int .u16 p.p.2, .int .u16 p.q.1, .int .u16 p.q.2, .int .u8 p.m.1, .int .u8 p.m.2, .int .i64 p.act] 60)).heap[wr.heap.size]? = some (.cells #[.int .i64 p.i, .int .u32 p.s, .int .i64 p.sl, .int .u32 p.d, .int .i64 p.dl, .int .u16 p.p.1, .int .u16 p.p.2, .int .u16 p.q.1, .int .u16 p.q.2, .int .u8 p.m.1, .int .u8 p.m.2, .int .i64 p.act] 60 (0, 0))) := blk_new wr _
      have HB2 : Hid (Below w.heap.size w (wr.alloc (.cells #[.int .i64 p.i, .int .u32 p.s, .int .i64 p.sl, .int .u32 p.d, .int .i64 p.dl, .int .u16 p.p.1, .int .u16 p.p.2, .int .u16 p.q.1, .int .u16 p.q.2, .int .u8 p.m.1, .int .u8 p.m.2, .int .i64 p.act] 60))) := HB.out.alloc HB.out.size _
      have Hbad : Hid _ := hbad
      have Hful : Hid _ := hful
      have Hnxt : Hid _ := hnxt
      clear hrg hbd hbad hful hnxt
      go_wp2_with (go_at_call 57; fail)
      clear x0 x1 x2 x3 x4 x5 x6 x7 x8 x9 x10 x11
      refine (hC _).mono ?_
      rintro e w3 ⟨rfl, hb3⟩
      have HX3 : Hid (w3.heap[wr.heap.size]? = some (.cells #[.int .i64 p.i, .int .u32 p.s, .int .i64 p.sl, .int .u32 p.d, .int .i64 p.dl, .int .u16 p.p.1, .int .u16 p.p.2, .int .u16 p.q.1, .int .u16 p.q.2, .int .u8 p.m.1, .int .u8 p.m.2, .int .i64 p.act] 60 (0, 0))) := blk_on HX.out hb3
      have HB3 : Hid (Below w.heap.size w w3) := bel_of HB2.out hb3 HB2.out.size
      clear hb3 hC HX HB2
      cases hok : okR p with
      | false =>
        have hne := errs_no hok
        have hj : joinE (l.take k) p = (errs p).1 := by unfold joinE; rw [if_neg hne]
        have HV : Hid (A = (errs p).1) := by
          show A = (errs p).1
          rw [HK.out, Hbad.out (by rw [hj]; exact hne), hj]
        have hne' : ((errs p).1 != 0) = true := by simpa using hne
        clear hj hok hne
        generalize (errs p).1 = E1 at *
        generalize (errs p).2 = E2 at *
        go_wp2_with (fail)
        go_ret
        exact ⟨ret_int HV.out.symm, HB3.out⟩
      | true =>
        rw [errs_ok hok]
        have he0 : (errs p).1 = 0 := by rw [errs_ok hok]
        have hj : joinE (l.take k) p = if 0 ≤ fnd (l.take k) p.i then 111 else 0 := by unfold joinE; rw [if_pos he0]
        have hT := containsC (.slice (some ⟨g, off, none⟩) k cap) (l.take k) p.i wr.heap.size w3 (by
          have := (HS.out.keep HB3.out).cut 0 k (Nat.zero_le _) (by rw [← Hn.out]; exact hk)
          rw [cutU_zero, List.drop_zero] at this
          exact this) (blk_cell HX3.out rfl) (by rw [List.length_take]; omega)
        have hcut := fun W => nCutH W (some ⟨g, off, none⟩) n cap k (by have := Hcap.out; omega)
        clear hok he0
        by_cases hf : 0 ≤ fnd (l.take k) p.i
        · have HV : Hid (A = 111) := by
            show A = 111
            rw [if_pos hf] at hj
            rw [HK.out, Hbad.out (by rw [hj]; decide), hj]
          rw [decide_eq_true hf] at hT
          clear hj hf
          go_wp2_with (go_at_call 65; refine hT.mono ?_; rintro e w4 ⟨rfl, hb4⟩)
          have HB4 : Hid (Below w.heap.size w w4) := bel_of HB3.out (by assumption) HB3.out.size
          go_ret
          exact ⟨ret_int HV.out.symm, HB4.out⟩
        · rw [if_neg hf] at hj
          rw [decide_eq_false hf] at hT
          have Hj : Hid (joinE (l.take k) p = 0) := hj
          clear hj hf
          by_cases h64 : k = 64
          · have HV : Hid (A = 113) := by
              show A = 113
              rw [HK.out, Hful.out Hj.out (by omega)]
            have h64i : (64 : Int) ≤ (k : Int) := by omega
            clear h64
            go_wp2_with (go_at_call 65; refine hT.mono ?_; rintro e w4 ⟨rfl, hb4⟩)
            have HB4 : Hid (Below w.heap.size w w4) := bel_of HB3.out (by assumption) HB3.out.size
            go_ret
            exact ⟨ret_int HV.out.symm, HB4.out⟩
          · have HK3 : Hid (A = setK 64 (l.take (k + 1)) (l.drop (k + 1))) := by
              show A = setK 64 (l.take (k + 1)) (l.drop (k + 1))
              rw [HK.out, Hnxt.out Hj.out (by omega)]
            have h64i : ¬ (64 : Int) ≤ (k : Int) := by omega
            go_wp2_with (go_at_call 65; refine hT.mono ?_; rintro e w4 ⟨rfl, hb4⟩)
            have HB4 : Hid (Below w.heap.size w w4) := bel_of HB3.out (by assumption) HB3.out.size
            go_roundw
            case rel => exact ⟨k + 1, by omega, by omega, by go_num, HK3.out, HB4.out⟩
            case measure => simp [intOf]; omega
    · obtain rfl : k = n := by omega
      have hni : ¬ (k : Int) < (k : Int) := by omega
      have HV : Hid (A = 0) := by
        show A = 0
        rw [HK.out, setK_end (by rw [← Hn.out]; exact Nat.le_refl _)]
      go_wp2
      go_ret
      exact ⟨ret_int HV.out.symm, HB.out⟩
end Go.Proofs.Ytfpmljgmfapoiaa
