/-
  PkAM: CtU, one behind the other (tools/pack.py).
-/
import Derived.Test.YtgokmkholjfhbaaGreatPkAC
import Derived.Test.YtgokmkholjfhbaaGreatPkAL
import Derived.Test.YtgokmkholjfhbaaGreatPkAD
import Derived.Test.YtgokmkholjfhbaaGreatPkAE
set_option linter.unusedVariables false
set_option linter.unusedSimpArgs false
namespace Go.Proofs.YtgokmkholjfhbaaGreat
open Go.RowKit
abbrev CtE := Nat × Xb.Bx
structure Pt where
 x : Xb.Bx
 ad : Option Addr
 n : Nat
 cap : Nat
abbrev Ct2 := Pt × Pt
def encZ (p : CtE) : List Value := [.int .i64 p.1, .int .u32 p.2.a.1, .int .u32 p.2.a.2, .int .u32 p.2.b.1, .int .u32 p.2.b.2, .int .u16 p.2.c.1, .int .u16 p.2.c.2, .int .u16 p.2.d.1, .int .u16 p.2.d.2, .int .u8 p.2.m.1, .int .u8 p.2.m.2]
def flatZ : List (CtE) → List Value
 | [] => []
 | p :: l => encZ p ++ flatZ l
theorem flatZ_length (l : List (CtE)) : (flatZ l).length = l.length * 11 := by
 induction l with
 | nil => rfl
 | cons p l ih => simp only [flatZ, encZ, List.length_append, List.length_cons, List.length_nil, ih]; omega
theorem flatZ_append (l k : List (CtE)) : flatZ (l ++ k) = flatZ l ++ flatZ k := by
 induction l with
 | nil => rfl
 | cons p l ih => simp only [flatZ, List.cons_append, ih, List.append_assoc]
theorem flatZ_one (l : List (CtE)) : ∀ u ∈ flatZ l, u.oneCell' = true := by
 induction l with
 | nil => intro u hu; cases hu
 | cons p l ih =>
  intro u hu
  simp only [flatZ, List.mem_append] at hu
  rcases hu with hu | hu
  ·simp only [encZ, List.mem_cons, List.not_mem_nil, or_false] at hu
   rcases hu with rfl | rfl | rfl | rfl | rfl | rfl | rfl | rfl | rfl | rfl | rfl <;> rfl
  ·exact ih u hu
theorem flatZ_at : ∀ (l : List (CtE)) (i : Nat) (h : i < l.length) (j : Nat) (hj : j < 11), (flatZ l)[i * 11 + j]? = (encZ (l[i]'h))[j]?
 | p :: l, 0, _, j, hj => by
  rw [Nat.zero_mul, Nat.zero_add]
  exact List.getElem?_append_left (by simp [encZ]; omega)
 | p :: l, i + 1, h, j, hj => by
  have := flatZ_at l i (by simpa using h) j hj
  show (encZ p ++ flatZ l)[(i + 1) * 11 + j]? = _
  rw [List.getElem?_append_right (by simp [encZ]; omega), show (i + 1) * 11 + j - (encZ p).length = i * 11 + j by simp [encZ]; omega]
  exact this
theorem infoZ : (Tryz.prog.info? 159).map (fun i => (i.zero, i.size, i.bytes)) = some (some (.agg #[.int .i64 0, .int .u32 0, .int .u32 0, .int .u32 0, .int .u32 0, .int .u16 0, .int .u16 0, .int .u16 0, .int .u16 0, .int .u8 0, .int .u8 0]), 11, 40) := by kernel_rfl
def RowZ (w : World) (base : Nat) (v : Value) (l : List (CtE)) : Prop := w.ownsRow base 159 11 v l.length (flatZ l)
theorem RowZ.base {w : World} {b b' : Nat} {v : Value} {l : List (CtE)} (h : RowZ w b v l) (hb : b' ≤ b) : RowZ w b' v l := by
 refine ⟨h.1, ?_⟩
 rcases h.2 with h2 | ⟨g, cap, cur, hv, hg, r⟩
 ·exact .inl h2
 ·exact .inr ⟨g, cap, cur, hv, by omega, r⟩
theorem RowZ.on {w w1 : World} {b : Nat} {v : Value} {l : List (CtE)} (h : RowZ w b v l) (hb : Below w.heap.size w w1) : RowZ w1 b v l := by
 refine ⟨h.1, ?_⟩
 rcases h.2 with h2 | ⟨g, cap, cur, hv, hg, hh, r⟩
 ·exact .inl h2
 ·exact .inr ⟨g, cap, cur, hv, hg, by rw [hb.block g (Array.getElem?_eq_some_iff.1 hh).1]; exact hh, r⟩
theorem RowZ.alloc {w : World} {b : Nat} {v : Value} {l : List (CtE)} (h : RowZ w b v l) (o : Obj) : RowZ (w.alloc o) b v l := World.ownsRow.alloc h o
theorem RowZ.drew {w : World} {b : Nat} {v : Value} {l : List (CtE)} (h : RowZ w b v l) : RowZ w.drew b v l := h
theorem RowZ.nil (w : World) (b : Nat) : RowZ w b (.slice none 0 0) [] := World.ownsRow_nil w b _ _
theorem RowZ.one (w : World) (b : Nat) (p : CtE) (hb : b ≤ w.heap.size) : RowZ (w.alloc (.cells #[.int .i64 p.1, .int .u32 p.2.a.1, .int .u32 p.2.a.2, .int .u32 p.2.b.1, .int .u32 p.2.b.2, .int .u16 p.2.c.1, .int .u16 p.2.c.2, .int .u16 p.2.d.1, .int .u16 p.2.d.2, .int .u8 p.2.m.1, .int .u8 p.2.m.2] 159)) b (.slice (some ⟨w.heap.size, 0, none⟩) 1 1) [p] :=
 World.ownsRow_lit w #[.int .i64 p.1, .int .u32 p.2.a.1, .int .u32 p.2.a.2, .int .u32 p.2.b.1, .int .u32 p.2.b.2, .int .u16 p.2.c.1, .int .u16 p.2.c.2, .int .u16 p.2.d.1, .int .u16 p.2.d.2, .int .u8 p.2.m.1, .int .u8 p.2.m.2] 1 hb (by simp [maxLen]) rfl
theorem RowZ.lt {w : World} {b : Nat} {v : Value} {l : List (CtE)} (h : RowZ w b v l) : ∀ k, v.ownBlock = some k → b ≤ k ∧ k < w.heap.size := World.ownsRow.lt h
theorem RowZ.put {w : World} {b : Nat} {v : Value} {l : List (CtE)} (h : RowZ w b v l) {g i : Nat} (hg : some g ≠ v.ownBlock) (u : Value) : RowZ (w.setCell ⟨g, i, none⟩ u) b v l := by
 refine ⟨h.1, ?_⟩
 rcases h.2 with h2 | ⟨g', cap, cur, hv, hb, hh, r⟩
 ·exact .inl h2
 ·exact .inr ⟨g', cap, cur, hv, hb, by rw [Below.heap_setCell _ _ _ _ (by intro e; apply hg; rw [hv]; simp [Value.ownBlock, e])]; exact hh, r⟩
theorem RowZ.form {w : World} {b : Nat} {v : Value} {l : List (CtE)} (h : RowZ w b v l) :
  ∃ (ad : Option Addr) (cap : Nat), v = .slice ad l.length cap ∧ l.length ≤ cap ∧ (0 < l.length → ∃ g, ad = some ⟨g, 0, none⟩ ∧ b ≤ g ∧ g < w.heap.size ∧ ∀ k (hk : k < l.length) j, j < 11 → w.cell? ⟨g, k * 11 + j, none⟩ = (encZ (l[k]'hk))[j]?) := by
 rcases h.2 with ⟨hv, hn⟩ | ⟨g, cap, cur, hv, hb, hg, hcap, r⟩
 ·exact ⟨none, 0, by rw [hv, hn], by omega, fun h0 => by omega⟩
 ·subst hv
  refine ⟨_, cap, rfl, hcap, fun _ => ⟨g, rfl, hb, (Array.getElem?_eq_some_iff.1 hg).1, fun k hk j hj => ?_⟩⟩
  have h' : w.ownsRow b 159 11 (.slice (some ⟨g, 0, none⟩) l.length cap) l.length (flatZ l) := h
  rw [h'.cellAt (k * 11 + j) (by omega), flatZ_at l k hk j hj]
theorem RowZ.frozen {w : World} {b g cap n : Nat} {l : List (CtE)} (h : RowZ w b (.slice (some ⟨g, 0, none⟩) n cap) l) (j : Nat) : w.frozen? ⟨g, j, none⟩ = false := by
 rcases h.2 with ⟨hv, _⟩ | ⟨g', cap', cur, hv, hb, hg, r⟩
 ·cases hv
 ·cases hv; simp [World.frozen?, hg]
def SrcZ (w : World) (v : Value) (l : List CtE) : Prop :=
 ∃ (ad : Option Addr) (cap : Nat), v = .slice ad l.length cap ∧ (l.length ≤ cap ∧ (ad = none → cap = 0)) ∧ (0 < l.length → ∃ g off, ad = some ⟨g, off, none⟩ ∧ ∀ k (hk : k < l.length) j, j < 11 → w.cell? ⟨g, off + (k * 11 + j), none⟩ = (encZ (l[k]'hk))[j]?)
theorem encZ_some (R : CtE) {j : Nat} (h : j < 11) : ∃ v, (encZ R)[j]? = some v := ⟨(encZ R)[j]'(by simp [encZ]; omega), List.getElem?_eq_getElem _⟩
theorem SrcZ.keep {w w1 : World} {v : Value} {l : List CtE} (h : SrcZ w v l) (hb : Below w.heap.size w w1) : SrcZ w1 v l := by
 obtain ⟨ad, cap, rfl, hc, h2⟩ := h
 refine ⟨ad, cap, rfl, hc, fun h0 => ?_⟩
 obtain ⟨g, off, rfl, h3⟩ := h2 h0
 exact ⟨g, off, rfl, fun k hk j hj => by
  have := h3 k hk j hj
  obtain ⟨u, hu⟩ := encZ_some (l[k]'hk) hj
  rw [hb.cell (World.block_lt_of_cell? w _ (this.trans hu))]; exact this⟩
theorem SrcZ.stay {w w1 : World} {v : Value} {l : List CtE} (h : SrcZ w v l) (hb : ∀ k, v.ownBlock = some k → k < w.heap.size → w1.heap[k]? = w.heap[k]?) : SrcZ w1 v l := by
 obtain ⟨ad, cap, rfl, hc, h2⟩ := h
 refine ⟨ad, cap, rfl, hc, fun h0 => ?_⟩
 obtain ⟨g, off, rfl, h3⟩ := h2 h0
 exact ⟨g, off, rfl, fun k hk j hj => by
  have := h3 k hk j hj
  obtain ⟨u, hu⟩ := encZ_some (l[k]'hk) hj
  have hlt := World.block_lt_of_cell? w _ (this.trans hu)
  rw [World.cell?_of_block (w := w) (a := ⟨g, off + (k * 11 + j), none⟩) (hb g rfl hlt)]; exact this⟩
theorem RowZ.src {w : World} {b : Nat} {v : Value} {l : List CtE} (h : RowZ w b v l) : SrcZ w v l := by
 obtain ⟨ad, cap, hv, hc, h2⟩ := h.form
 refine ⟨ad, cap, hv, ⟨hc, fun e => ?_⟩, fun h0 => ?_⟩
 ·subst e
  rcases h.2 with ⟨hv', _⟩ | ⟨g, cap', cur, hv', _⟩
  ·rw [hv] at hv'; injection hv'
  ·rw [hv] at hv'; cases hv'
 obtain ⟨g, e, _, _, h3⟩ := h2 h0
 exact ⟨g, 0, e, fun k hk j hj => by rw [Nat.zero_add]; exact h3 k hk j hj⟩
theorem SrcZ.flat {w : World} {g off n cap : Nat} {l : List CtE} (h : SrcZ w (.slice (some ⟨g, off, none⟩) n cap) l) : ∀ j u, (flatZ l)[j]? = some u → w.cell? ((⟨g, off, none⟩ : Addr).add j) = some u := by
 intro j u hu
 obtain ⟨ad, c, e, hc, h2⟩ := h
 cases e
 have hj : j < (flatZ l).length := (List.getElem?_eq_some_iff.1 hu).1
 rw [flatZ_length] at hj
 obtain ⟨g', off', e', h3⟩ := h2 (by omega)
 cases e'
 have hk : j / 11 < l.length := by omega
 have hm : j % 11 < 11 := Nat.mod_lt _ (by decide)
 have e1 : j / 11 * 11 + j % 11 = j := by omega
 have h4 := flatZ_at l (j / 11) hk (j % 11) hm
 rw [e1] at h4
 have h5 := h3 (j / 11) hk (j % 11) hm
 rw [e1] at h5
 rw [Addr.add_lit, h5, ← h4]
 exact hu
theorem flatZ_take (l : List CtE) (p : Nat) : (flatZ l).take (p * 11) = flatZ (l.take p) := by
 by_cases h : p ≤ l.length
 ·have e := flatZ_append (l.take p) (l.drop p)
  rw [List.take_append_drop] at e
  rw [e]
  have hl : (flatZ (l.take p)).length = p * 11 := by rw [flatZ_length, List.length_take]; congr 1; omega
  rw [List.take_append_of_le_length (by omega), List.take_of_length_le (by omega)]
 ·rw [List.take_of_length_le (by rw [flatZ_length]; omega), List.take_of_length_le (by omega)]
theorem flatZ_drop (l : List CtE) (p : Nat) : (flatZ l).drop (p * 11) = flatZ (l.drop p) := by
 by_cases h : p ≤ l.length
 ·have e := flatZ_append (l.take p) (l.drop p)
  rw [List.take_append_drop] at e
  rw [e]
  have hl : (flatZ (l.take p)).length = p * 11 := by rw [flatZ_length, List.length_take]; congr 1; omega
  rw [← hl, List.drop_left]
 ·rw [List.drop_eq_nil_of_le (by rw [flatZ_length]; omega), List.drop_eq_nil_of_le (by omega)]; rfl
theorem RowZ.some {w : World} {b : Nat} {v : Value} {l : List CtE} (h : RowZ w b v l) (h0 : 0 < l.length) : ∃ g cap, v = .slice (.some ⟨g, 0, none⟩) l.length cap ∧ l.length ≤ cap ∧ b ≤ g ∧ g < w.heap.size := by
 obtain ⟨ad, cap, hv, hc, h2⟩ := h.form
 obtain ⟨g, rfl, hb, hg, _⟩ := h2 h0
 exact ⟨g, cap, hv, hc, hb, hg⟩
theorem RowZ.over {w w' : World} {b g n cap : Nat} {l : List CtE} (h : RowZ w b (.slice (.some ⟨g, 0, none⟩) n cap) l) (p : Nat) (k : List CtE) (hf : p + k.length ≤ n)
  (hw : ∀ cur, w.heap[g]? = .some (.cells cur 159 (0, 0)) → w'.heap[g]? = .some (.cells (cur.toList.take (p * 11) ++ flatZ k ++ cur.toList.drop (p * 11 + (flatZ k).length)).toArray 159 (0, 0))) :
  RowZ w' b (.slice (.some ⟨g, 0, none⟩) n cap) (l.take p ++ k ++ l.drop (p + k.length)) := by
 have hn : l.length = n := by
  rcases h.2 with ⟨hv, _⟩ | ⟨g', cap', cur, hv, _⟩
  ·cases hv
  ·cases hv; rfl
 subst hn
 have hlen : (l.take p ++ k ++ l.drop (p + k.length)).length = l.length := by simp; omega
 rcases h.2 with ⟨hv, _⟩ | ⟨g', cap', cur, hv, hb, hg, hc, hm, hs, ht⟩
 ·cases hv
 ·cases hv
  refine ⟨by rw [hlen, flatZ_length, hlen], .inr ⟨g, cap, _, by rw [hlen], hb, hw cur hg, by rw [hlen]; exact hc, hm, ?_, ?_⟩⟩
  ·rw [flatZ_length]
   simp only [List.size_toArray, List.length_append, List.length_take, List.length_drop, Array.length_toList, flatZ_length]
   omega
  ·rw [hlen]
   have e1 : cur.toList.take (p * 11) = flatZ (l.take p) := by
    rw [← flatZ_take, ← ht, List.take_take]; congr 1; omega
   have e2 : (cur.toList.drop (p * 11 + (flatZ k).length)).take (l.length * 11 - (p * 11 + (flatZ k).length)) = flatZ (l.drop (p + k.length)) := by
    rw [← flatZ_drop, ← ht, List.drop_take, flatZ_length]
    rw [show p * 11 + k.length * 11 = (p + k.length) * 11 by omega]
   have l1 : (flatZ (l.take p)).length = p * 11 := by rw [flatZ_length, List.length_take]; omega
   rw [e1, flatZ_append, flatZ_append, ← e2]
   have l2 := flatZ_length k
   rw [List.take_append, List.take_of_length_le (by rw [List.length_append, l1, l2]; omega)]
   congr 2
   rw [List.length_append, l1]
theorem run_appendSZ (w : World) (ty : TypeId) (b : Nat) (v : Value) (l : List CtE) (h : RowZ w b v l) (u : Value) (k : List CtE) (hk : SrcZ w u k) (hb : b ≤ w.heap.size) (hsz : l.length + k.length ≤ 4294967296) :
  ∃ v' w', (Builtin.append_ #[133, 133] ty #[v, u]).run Tryz.prog w = .ok v' w' ∧ RowZ w' b v' (l ++ k) ∧ w.grownBy w' v.ownBlock ∧ (v'.ownBlock = v.ownBlock ∨ v'.ownBlock = .some w.heap.size) := by
 obtain ⟨i0, hi, hz0, hz1, hz2⟩ := info_parts infoZ
 have hmx : l.length + k.length ≤ maxLen := by unfold maxLen; omega
 have hk' := hk
 obtain ⟨ad, c, rfl, hc, h2⟩ := hk
 cases ad with
 | none =>
  have h0 : k.length = 0 := by have := hc.1; have := hc.2 rfl; omega
  have hc0 : c = 0 := hc.2 rfl
  have hr := run_append_owned_none (P := Tryz.prog) (w := w) b 133 ty 159 i0 11 Tryz.underlying133 hi v l.length (flatZ l) h
  rw [h0, hc0]
  refine ⟨v, w, hr, ?_, ⟨rfl, rfl, rfl, Nat.le_refl _, fun _ _ _ => rfl⟩, .inl rfl⟩
  rw [List.eq_nil_of_length_eq_zero h0, List.append_nil]
  exact h
 | some a =>
  have hfl : ∀ j x, (flatZ k)[j]? = .some x → w.cell? (a.add j) = .some x := by
   by_cases h0 : 0 < k.length
   ·obtain ⟨g, off, e, _⟩ := h2 h0
    cases e
    exact hk'.flat
   ·rw [List.eq_nil_of_length_eq_zero (by omega : k.length = 0)]
    intro j x hx
    simp [flatZ] at hx
  obtain ⟨v', w', hr, ho, hgr, _, hat⟩ := run_append_own_at (P := Tryz.prog) w b 133 ty 159 i0 (.agg #[.int .i64 0, .int .u32 0, .int .u32 0, .int .u32 0, .int .u32 0, .int .u16 0, .int .u16 0, .int .u16 0, .int .u16 0, .int .u8 0, .int .u8 0]) 11 40 Tryz.underlying133 hi hz0 hz1 hz2 rfl (by decide) v l.length (flatZ l) h a k.length c (flatZ k) (flatZ_length k) hfl (flatZ_one k) hmx (by omega) hb
  refine ⟨v', w', hr, ?_, hgr, hat⟩
  unfold RowZ
  rw [List.length_append, flatZ_append]
  exact ho
theorem wpList_appendSZ {ops : Array Oper} {rest : List Oper} {o : Oper} {a : Act} {w : World} {Q : Exit → Act → World → Prop} (hgd : o.guard = none) (s x : Operand)
  (ho : o.op = .call { callee := .builtin .append, args := #[s, x], argTypes := #[133, 133] })
  (b : Nat) (v : Value) (l : List CtE) (hs : a.eval s = v) (h : RowZ w b v l) (u : Value) (k : List CtE) (hx : a.eval x = u) (hk : SrcZ w u k)
  (hb : b ≤ w.heap.size) (hsz : l.length + k.length ≤ 4294967296)
  (hK : ∀ v' w', RowZ w' b v' (l ++ k) → w.grownBy w' v.ownBlock → (v'.ownBlock = v.ownBlock ∨ v'.ownBlock = .some w.heap.size) → wpList Tryz.prog ops Q rest (a.put o.dst v') w') : wpList Tryz.prog ops Q (o :: rest) a w := by
 refine wpList_plain hgd fun K hK' => ?_
 obtain ⟨v', w', hr, h2, h3, h4⟩ := run_appendSZ w o.type b v l h u k hk hb hsz
 unfold Oper.wp execOp
 simp only [ho, resolve, invoke, builtin, Sem.run_bind, Sem.run_pure, Result.andThen_ok, List.map_toArray, List.map_cons, List.map_nil, hs, hx, hr]
 exact hK' _ _ (hK v' w' h2 h3 h4)
def encQ (p : Ct2) : List Value := [.int .u32 p.1.x.a.1, .int .u32 p.1.x.a.2, .int .u32 p.1.x.b.1, .int .u32 p.1.x.b.2, .int .u16 p.1.x.c.1, .int .u16 p.1.x.c.2, .int .u16 p.1.x.d.1, .int .u16 p.1.x.d.2, .int .u8 p.1.x.m.1, .int .u8 p.1.x.m.2, .slice p.1.ad p.1.n p.1.cap, .int .u32 p.2.x.a.1, .int .u32 p.2.x.a.2, .int .u32 p.2.x.b.1, .int .u32 p.2.x.b.2, .int .u16 p.2.x.c.1, .int .u16 p.2.x.c.2, .int .u16 p.2.x.d.1, .int .u16 p.2.x.d.2, .int .u8 p.2.x.m.1, .int .u8 p.2.x.m.2, .slice p.2.ad p.2.n p.2.cap]
def flatQ : List (Ct2) → List Value
 | [] => []
 | p :: l => encQ p ++ flatQ l
theorem flatQ_length (l : List (Ct2)) : (flatQ l).length = l.length * 22 := by
 induction l with
 | nil => rfl
 | cons p l ih => simp only [flatQ, encQ, List.length_append, List.length_cons, List.length_nil, ih]; omega
theorem flatQ_append (l k : List (Ct2)) : flatQ (l ++ k) = flatQ l ++ flatQ k := by
 induction l with
 | nil => rfl
 | cons p l ih => simp only [flatQ, List.cons_append, ih, List.append_assoc]
theorem flatQ_one (l : List (Ct2)) : ∀ u ∈ flatQ l, u.oneCell' = true := by
 induction l with
 | nil => intro u hu; cases hu
 | cons p l ih =>
  intro u hu
  simp only [flatQ, List.mem_append] at hu
  rcases hu with hu | hu
  ·simp only [encQ, List.mem_cons, List.not_mem_nil, or_false] at hu
   rcases hu with rfl | rfl | rfl | rfl | rfl | rfl | rfl | rfl | rfl | rfl | rfl | rfl | rfl | rfl | rfl | rfl | rfl | rfl | rfl | rfl | rfl | rfl <;> rfl
  ·exact ih u hu
theorem flatQ_at : ∀ (l : List (Ct2)) (i : Nat) (h : i < l.length) (j : Nat) (hj : j < 22), (flatQ l)[i * 22 + j]? = (encQ (l[i]'h))[j]?
 | p :: l, 0, _, j, hj => by
  rw [Nat.zero_mul, Nat.zero_add]
  exact List.getElem?_append_left (by simp [encQ]; omega)
 | p :: l, i + 1, h, j, hj => by
  have := flatQ_at l i (by simpa using h) j hj
  show (encQ p ++ flatQ l)[(i + 1) * 22 + j]? = _
  rw [List.getElem?_append_right (by simp [encQ]; omega), show (i + 1) * 22 + j - (encQ p).length = i * 22 + j by simp [encQ]; omega]
  exact this
theorem infoQ : (Tryz.prog.info? 153).map (fun i => (i.zero, i.size, i.bytes)) = some (some (.agg #[.int .u32 0, .int .u32 0, .int .u32 0, .int .u32 0, .int .u16 0, .int .u16 0, .int .u16 0, .int .u16 0, .int .u8 0, .int .u8 0, .slice none 0 0, .int .u32 0, .int .u32 0, .int .u32 0, .int .u32 0, .int .u16 0, .int .u16 0, .int .u16 0, .int .u16 0, .int .u8 0, .int .u8 0, .slice none 0 0]), 22, 112) := by kernel_rfl
def RowQ (w : World) (base : Nat) (v : Value) (l : List (Ct2)) : Prop := w.ownsRow base 153 22 v l.length (flatQ l)
theorem RowQ.base {w : World} {b b' : Nat} {v : Value} {l : List (Ct2)} (h : RowQ w b v l) (hb : b' ≤ b) : RowQ w b' v l := by
 refine ⟨h.1, ?_⟩
 rcases h.2 with h2 | ⟨g, cap, cur, hv, hg, r⟩
 ·exact .inl h2
 ·exact .inr ⟨g, cap, cur, hv, by omega, r⟩
theorem RowQ.on {w w1 : World} {b : Nat} {v : Value} {l : List (Ct2)} (h : RowQ w b v l) (hb : Below w.heap.size w w1) : RowQ w1 b v l := by
 refine ⟨h.1, ?_⟩
 rcases h.2 with h2 | ⟨g, cap, cur, hv, hg, hh, r⟩
 ·exact .inl h2
 ·exact .inr ⟨g, cap, cur, hv, hg, by rw [hb.block g (Array.getElem?_eq_some_iff.1 hh).1]; exact hh, r⟩
theorem RowQ.alloc {w : World} {b : Nat} {v : Value} {l : List (Ct2)} (h : RowQ w b v l) (o : Obj) : RowQ (w.alloc o) b v l := World.ownsRow.alloc h o
theorem RowQ.drew {w : World} {b : Nat} {v : Value} {l : List (Ct2)} (h : RowQ w b v l) : RowQ w.drew b v l := h
theorem RowQ.nil (w : World) (b : Nat) : RowQ w b (.slice none 0 0) [] := World.ownsRow_nil w b _ _
theorem RowQ.one (w : World) (b : Nat) (p : Ct2) (hb : b ≤ w.heap.size) : RowQ (w.alloc (.cells #[.int .u32 p.1.x.a.1, .int .u32 p.1.x.a.2, .int .u32 p.1.x.b.1, .int .u32 p.1.x.b.2, .int .u16 p.1.x.c.1, .int .u16 p.1.x.c.2, .int .u16 p.1.x.d.1, .int .u16 p.1.x.d.2, .int .u8 p.1.x.m.1, .int .u8 p.1.x.m.2, .slice p.1.ad p.1.n p.1.cap, .int .u32 p.2.x.a.1, .int .u32 p.2.x.a.2, .int .u32 p.2.x.b.1, .int .u32 p.2.x.b.2, .int .u16 p.2.x.c.1, .int .u16 p.2.x.c.2, .int .u16 p.2.x.d.1, .int .u16 p.2.x.d.2, .int .u8 p.2.x.m.1, .int .u8 p.2.x.m.2, .slice p.2.ad p.2.n p.2.cap] 153)) b (.slice (some ⟨w.heap.size, 0, none⟩) 1 1) [p] :=
 World.ownsRow_lit w #[.int .u32 p.1.x.a.1, .int .u32 p.1.x.a.2, .int .u32 p.1.x.b.1, .int .u32 p.1.x.b.2, .int .u16 p.1.x.c.1, .int .u16 p.1.x.c.2, .int .u16 p.1.x.d.1, .int .u16 p.1.x.d.2, .int .u8 p.1.x.m.1, .int .u8 p.1.x.m.2, .slice p.1.ad p.1.n p.1.cap, .int .u32 p.2.x.a.1, .int .u32 p.2.x.a.2, .int .u32 p.2.x.b.1, .int .u32 p.2.x.b.2, .int .u16 p.2.x.c.1, .int .u16 p.2.x.c.2, .int .u16 p.2.x.d.1, .int .u16 p.2.x.d.2, .int .u8 p.2.x.m.1, .int .u8 p.2.x.m.2, .slice p.2.ad p.2.n p.2.cap] 1 hb (by simp [maxLen]) rfl
theorem RowQ.lt {w : World} {b : Nat} {v : Value} {l : List (Ct2)} (h : RowQ w b v l) : ∀ k, v.ownBlock = some k → b ≤ k ∧ k < w.heap.size := World.ownsRow.lt h
theorem RowQ.put {w : World} {b : Nat} {v : Value} {l : List (Ct2)} (h : RowQ w b v l) {g i : Nat} (hg : some g ≠ v.ownBlock) (u : Value) : RowQ (w.setCell ⟨g, i, none⟩ u) b v l := by
 refine ⟨h.1, ?_⟩
 rcases h.2 with h2 | ⟨g', cap, cur, hv, hb, hh, r⟩
 ·exact .inl h2
 ·exact .inr ⟨g', cap, cur, hv, hb, by rw [Below.heap_setCell _ _ _ _ (by intro e; apply hg; rw [hv]; simp [Value.ownBlock, e])]; exact hh, r⟩
theorem RowQ.form {w : World} {b : Nat} {v : Value} {l : List (Ct2)} (h : RowQ w b v l) :
  ∃ (ad : Option Addr) (cap : Nat), v = .slice ad l.length cap ∧ l.length ≤ cap ∧ (0 < l.length → ∃ g, ad = some ⟨g, 0, none⟩ ∧ b ≤ g ∧ g < w.heap.size ∧ ∀ k (hk : k < l.length) j, j < 22 → w.cell? ⟨g, k * 22 + j, none⟩ = (encQ (l[k]'hk))[j]?) := by
 rcases h.2 with ⟨hv, hn⟩ | ⟨g, cap, cur, hv, hb, hg, hcap, r⟩
 ·exact ⟨none, 0, by rw [hv, hn], by omega, fun h0 => by omega⟩
 ·subst hv
  refine ⟨_, cap, rfl, hcap, fun _ => ⟨g, rfl, hb, (Array.getElem?_eq_some_iff.1 hg).1, fun k hk j hj => ?_⟩⟩
  have h' : w.ownsRow b 153 22 (.slice (some ⟨g, 0, none⟩) l.length cap) l.length (flatQ l) := h
  rw [h'.cellAt (k * 22 + j) (by omega), flatQ_at l k hk j hj]
theorem RowQ.frozen {w : World} {b g cap n : Nat} {l : List (Ct2)} (h : RowQ w b (.slice (some ⟨g, 0, none⟩) n cap) l) (j : Nat) : w.frozen? ⟨g, j, none⟩ = false := by
 rcases h.2 with ⟨hv, _⟩ | ⟨g', cap', cur, hv, hb, hg, r⟩
 ·cases hv
 ·cases hv; simp [World.frozen?, hg]
def SrcQ (w : World) (v : Value) (l : List Ct2) : Prop :=
 ∃ (ad : Option Addr) (cap : Nat), v = .slice ad l.length cap ∧ (l.length ≤ cap ∧ (ad = none → cap = 0)) ∧ (0 < l.length → ∃ g off, ad = some ⟨g, off, none⟩ ∧ ∀ k (hk : k < l.length) j, j < 22 → w.cell? ⟨g, off + (k * 22 + j), none⟩ = (encQ (l[k]'hk))[j]?)
theorem encQ_some (R : Ct2) {j : Nat} (h : j < 22) : ∃ v, (encQ R)[j]? = some v := ⟨(encQ R)[j]'(by simp [encQ]; omega), List.getElem?_eq_getElem _⟩
theorem SrcQ.keep {w w1 : World} {v : Value} {l : List Ct2} (h : SrcQ w v l) (hb : Below w.heap.size w w1) : SrcQ w1 v l := by
 obtain ⟨ad, cap, rfl, hc, h2⟩ := h
 refine ⟨ad, cap, rfl, hc, fun h0 => ?_⟩
 obtain ⟨g, off, rfl, h3⟩ := h2 h0
 exact ⟨g, off, rfl, fun k hk j hj => by
  have := h3 k hk j hj
  obtain ⟨u, hu⟩ := encQ_some (l[k]'hk) hj
  rw [hb.cell (World.block_lt_of_cell? w _ (this.trans hu))]; exact this⟩
theorem SrcQ.stay {w w1 : World} {v : Value} {l : List Ct2} (h : SrcQ w v l) (hb : ∀ k, v.ownBlock = some k → k < w.heap.size → w1.heap[k]? = w.heap[k]?) : SrcQ w1 v l := by
 obtain ⟨ad, cap, rfl, hc, h2⟩ := h
 refine ⟨ad, cap, rfl, hc, fun h0 => ?_⟩
 obtain ⟨g, off, rfl, h3⟩ := h2 h0
 exact ⟨g, off, rfl, fun k hk j hj => by
  have := h3 k hk j hj
  obtain ⟨u, hu⟩ := encQ_some (l[k]'hk) hj
  have hlt := World.block_lt_of_cell? w _ (this.trans hu)
  rw [World.cell?_of_block (w := w) (a := ⟨g, off + (k * 22 + j), none⟩) (hb g rfl hlt)]; exact this⟩
theorem RowQ.src {w : World} {b : Nat} {v : Value} {l : List Ct2} (h : RowQ w b v l) : SrcQ w v l := by
 obtain ⟨ad, cap, hv, hc, h2⟩ := h.form
 refine ⟨ad, cap, hv, ⟨hc, fun e => ?_⟩, fun h0 => ?_⟩
 ·subst e
  rcases h.2 with ⟨hv', _⟩ | ⟨g, cap', cur, hv', _⟩
  ·rw [hv] at hv'; injection hv'
  ·rw [hv] at hv'; cases hv'
 obtain ⟨g, e, _, _, h3⟩ := h2 h0
 exact ⟨g, 0, e, fun k hk j hj => by rw [Nat.zero_add]; exact h3 k hk j hj⟩
theorem SrcQ.flat {w : World} {g off n cap : Nat} {l : List Ct2} (h : SrcQ w (.slice (some ⟨g, off, none⟩) n cap) l) : ∀ j u, (flatQ l)[j]? = some u → w.cell? ((⟨g, off, none⟩ : Addr).add j) = some u := by
 intro j u hu
 obtain ⟨ad, c, e, hc, h2⟩ := h
 cases e
 have hj : j < (flatQ l).length := (List.getElem?_eq_some_iff.1 hu).1
 rw [flatQ_length] at hj
 obtain ⟨g', off', e', h3⟩ := h2 (by omega)
 cases e'
 have hk : j / 22 < l.length := by omega
 have hm : j % 22 < 22 := Nat.mod_lt _ (by decide)
 have e1 : j / 22 * 22 + j % 22 = j := by omega
 have h4 := flatQ_at l (j / 22) hk (j % 22) hm
 rw [e1] at h4
 have h5 := h3 (j / 22) hk (j % 22) hm
 rw [e1] at h5
 rw [Addr.add_lit, h5, ← h4]
 exact hu
theorem flatQ_take (l : List Ct2) (p : Nat) : (flatQ l).take (p * 22) = flatQ (l.take p) := by
 by_cases h : p ≤ l.length
 ·have e := flatQ_append (l.take p) (l.drop p)
  rw [List.take_append_drop] at e
  rw [e]
  have hl : (flatQ (l.take p)).length = p * 22 := by rw [flatQ_length, List.length_take]; congr 1; omega
  rw [List.take_append_of_le_length (by omega), List.take_of_length_le (by omega)]
 ·rw [List.take_of_length_le (by rw [flatQ_length]; omega), List.take_of_length_le (by omega)]
theorem flatQ_drop (l : List Ct2) (p : Nat) : (flatQ l).drop (p * 22) = flatQ (l.drop p) := by
 by_cases h : p ≤ l.length
 ·have e := flatQ_append (l.take p) (l.drop p)
  rw [List.take_append_drop] at e
  rw [e]
  have hl : (flatQ (l.take p)).length = p * 22 := by rw [flatQ_length, List.length_take]; congr 1; omega
  rw [← hl, List.drop_left]
 ·rw [List.drop_eq_nil_of_le (by rw [flatQ_length]; omega), List.drop_eq_nil_of_le (by omega)]; rfl
theorem RowQ.some {w : World} {b : Nat} {v : Value} {l : List Ct2} (h : RowQ w b v l) (h0 : 0 < l.length) : ∃ g cap, v = .slice (.some ⟨g, 0, none⟩) l.length cap ∧ l.length ≤ cap ∧ b ≤ g ∧ g < w.heap.size := by
 obtain ⟨ad, cap, hv, hc, h2⟩ := h.form
 obtain ⟨g, rfl, hb, hg, _⟩ := h2 h0
 exact ⟨g, cap, hv, hc, hb, hg⟩
theorem RowQ.over {w w' : World} {b g n cap : Nat} {l : List Ct2} (h : RowQ w b (.slice (.some ⟨g, 0, none⟩) n cap) l) (p : Nat) (k : List Ct2) (hf : p + k.length ≤ n)
  (hw : ∀ cur, w.heap[g]? = .some (.cells cur 153 (0, 0)) → w'.heap[g]? = .some (.cells (cur.toList.take (p * 22) ++ flatQ k ++ cur.toList.drop (p * 22 + (flatQ k).length)).toArray 153 (0, 0))) :
  RowQ w' b (.slice (.some ⟨g, 0, none⟩) n cap) (l.take p ++ k ++ l.drop (p + k.length)) := by
 have hn : l.length = n := by
  rcases h.2 with ⟨hv, _⟩ | ⟨g', cap', cur, hv, _⟩
  ·cases hv
  ·cases hv; rfl
 subst hn
 have hlen : (l.take p ++ k ++ l.drop (p + k.length)).length = l.length := by simp; omega
 rcases h.2 with ⟨hv, _⟩ | ⟨g', cap', cur, hv, hb, hg, hc, hm, hs, ht⟩
 ·cases hv
 ·cases hv
  refine ⟨by rw [hlen, flatQ_length, hlen], .inr ⟨g, cap, _, by rw [hlen], hb, hw cur hg, by rw [hlen]; exact hc, hm, ?_, ?_⟩⟩
  ·rw [flatQ_length]
   simp only [List.size_toArray, List.length_append, List.length_take, List.length_drop, Array.length_toList, flatQ_length]
   omega
  ·rw [hlen]
   have e1 : cur.toList.take (p * 22) = flatQ (l.take p) := by
    rw [← flatQ_take, ← ht, List.take_take]; congr 1; omega
   have e2 : (cur.toList.drop (p * 22 + (flatQ k).length)).take (l.length * 22 - (p * 22 + (flatQ k).length)) = flatQ (l.drop (p + k.length)) := by
    rw [← flatQ_drop, ← ht, List.drop_take, flatQ_length]
    rw [show p * 22 + k.length * 22 = (p + k.length) * 22 by omega]
   have l1 : (flatQ (l.take p)).length = p * 22 := by rw [flatQ_length, List.length_take]; omega
   rw [e1, flatQ_append, flatQ_append, ← e2]
   have l2 := flatQ_length k
   rw [List.take_append, List.take_of_length_le (by rw [List.length_append, l1, l2]; omega)]
   congr 2
   rw [List.length_append, l1]
theorem run_appendSQ (w : World) (ty : TypeId) (b : Nat) (v : Value) (l : List Ct2) (h : RowQ w b v l) (u : Value) (k : List Ct2) (hk : SrcQ w u k) (hb : b ≤ w.heap.size) (hsz : l.length + k.length ≤ 4294967296) :
  ∃ v' w', (Builtin.append_ #[184, 184] ty #[v, u]).run Tryz.prog w = .ok v' w' ∧ RowQ w' b v' (l ++ k) ∧ w.grownBy w' v.ownBlock ∧ (v'.ownBlock = v.ownBlock ∨ v'.ownBlock = .some w.heap.size) := by
 obtain ⟨i0, hi, hz0, hz1, hz2⟩ := info_parts infoQ
 have hmx : l.length + k.length ≤ maxLen := by unfold maxLen; omega
 have hk' := hk
 obtain ⟨ad, c, rfl, hc, h2⟩ := hk
 cases ad with
 | none =>
  have h0 : k.length = 0 := by have := hc.1; have := hc.2 rfl; omega
  have hc0 : c = 0 := hc.2 rfl
  have hr := run_append_owned_none (P := Tryz.prog) (w := w) b 184 ty 153 i0 22 Tryz.underlying184 hi v l.length (flatQ l) h
  rw [h0, hc0]
  refine ⟨v, w, hr, ?_, ⟨rfl, rfl, rfl, Nat.le_refl _, fun _ _ _ => rfl⟩, .inl rfl⟩
  rw [List.eq_nil_of_length_eq_zero h0, List.append_nil]
  exact h
 | some a =>
  have hfl : ∀ j x, (flatQ k)[j]? = .some x → w.cell? (a.add j) = .some x := by
   by_cases h0 : 0 < k.length
   ·obtain ⟨g, off, e, _⟩ := h2 h0
    cases e
    exact hk'.flat
   ·rw [List.eq_nil_of_length_eq_zero (by omega : k.length = 0)]
    intro j x hx
    simp [flatQ] at hx
  obtain ⟨v', w', hr, ho, hgr, _, hat⟩ := run_append_own_at (P := Tryz.prog) w b 184 ty 153 i0 (.agg #[.int .u32 0, .int .u32 0, .int .u32 0, .int .u32 0, .int .u16 0, .int .u16 0, .int .u16 0, .int .u16 0, .int .u8 0, .int .u8 0, .slice none 0 0, .int .u32 0, .int .u32 0, .int .u32 0, .int .u32 0, .int .u16 0, .int .u16 0, .int .u16 0, .int .u16 0, .int .u8 0, .int .u8 0, .slice none 0 0]) 22 112 Tryz.underlying184 hi hz0 hz1 hz2 rfl (by decide) v l.length (flatQ l) h a k.length c (flatQ k) (flatQ_length k) hfl (flatQ_one k) hmx (by omega) hb
  refine ⟨v', w', hr, ?_, hgr, hat⟩
  unfold RowQ
  rw [List.length_append, flatQ_append]
  exact ho
theorem wpList_appendSQ {ops : Array Oper} {rest : List Oper} {o : Oper} {a : Act} {w : World} {Q : Exit → Act → World → Prop} (hgd : o.guard = none) (s x : Operand)
  (ho : o.op = .call { callee := .builtin .append, args := #[s, x], argTypes := #[184, 184] })
  (b : Nat) (v : Value) (l : List Ct2) (hs : a.eval s = v) (h : RowQ w b v l) (u : Value) (k : List Ct2) (hx : a.eval x = u) (hk : SrcQ w u k)
  (hb : b ≤ w.heap.size) (hsz : l.length + k.length ≤ 4294967296)
  (hK : ∀ v' w', RowQ w' b v' (l ++ k) → w.grownBy w' v.ownBlock → (v'.ownBlock = v.ownBlock ∨ v'.ownBlock = .some w.heap.size) → wpList Tryz.prog ops Q rest (a.put o.dst v') w') : wpList Tryz.prog ops Q (o :: rest) a w := by
 refine wpList_plain hgd fun K hK' => ?_
 obtain ⟨v', w', hr, h2, h3, h4⟩ := run_appendSQ w o.type b v l h u k hk hb hsz
 unfold Oper.wp execOp
 simp only [ho, resolve, invoke, builtin, Sem.run_bind, Sem.run_pure, Result.andThen_ok, List.map_toArray, List.map_cons, List.map_nil, hs, hx, hr]
 exact hK' _ _ (hK v' w' h2 h3 h4)
end Go.Proofs.YtgokmkholjfhbaaGreat
