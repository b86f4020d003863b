/-
  PkAQ: CtM CtO, one behind the other (tools/pack.py).
-/
import Derived.Test.YtgokmkholjfhbaaGreatPkAG
import Derived.Test.YtgokmkholjfhbaaGreatPkAP
import Derived.Laws.MakeOwn
import Derived.Deep.RegionWith
import Derived.Test.YtgokmkholjfhbaaGreatPkAE
import Derived.Laws.EntriesVeiled
set_option linter.unusedVariables false
set_option linter.unusedSimpArgs false
namespace Go.Proofs.YtgokmkholjfhbaaGreat
open Go.RowKit
theorem al2 (w : World) (a b : Obj) : ((w.alloc a).alloc b).heap[w.heap.size]? = some a ∧ ((w.alloc a).alloc b).heap[w.heap.size + 1]? = some b ∧ Below w.heap.size w ((w.alloc a).alloc b) := by
 refine ⟨blk_alloc (blk_new w a) b, ?_, ((Below.refl _ _).alloc (Nat.le_refl _) _).alloc (by simp) _⟩
 have := blk_new (w.alloc a) b
 rwa [show (w.alloc a).heap.size = w.heap.size + 1 by simp] at this
theorem al3 (w : World) (a b c : Obj) : (((w.alloc a).alloc b).alloc c).heap[w.heap.size]? = some a ∧ (((w.alloc a).alloc b).alloc c).heap[w.heap.size + 1]? = some b ∧ (((w.alloc a).alloc b).alloc c).heap[w.heap.size + 1 + 1]? = some c ∧ Below w.heap.size w (((w.alloc a).alloc b).alloc c) := by
 obtain ⟨h1, h2, h3⟩ := al2 w a b
 refine ⟨blk_alloc h1 c, blk_alloc h2 c, ?_, h3.alloc h3.size _⟩
 have := blk_new ((w.alloc a).alloc b) c
 rwa [show ((w.alloc a).alloc b).heap.size = w.heap.size + 1 + 1 by simp] at this
theorem ct_part {w : World} {B : Nat} {X : Xb.Bx} {ad : Option Addr} {n cap : Nat} (h : w.heap[B]? = some (.cells #[.int .u32 X.a.1, .int .u32 X.a.2, .int .u32 X.b.1, .int .u32 X.b.2, .int .u16 X.c.1, .int .u16 X.c.2, .int .u16 X.d.1, .int .u16 X.d.2, .int .u8 X.m.1, .int .u8 X.m.2, .slice ad n cap] 135)) : w.rangeAt B 0 (Xb.encX X) ∧ w.cell? ⟨B, 10, none⟩ = some (.slice ad n cap) :=
 part_rng (p := ⟨X, ad, n, cap⟩) h
theorem run_makeZ (w : World) (c : Nat) (hc : c ≤ 64) : (Instr.makeSlice 133 (.int .i64 0) (.int .i64 c)).run Tryz.prog w = .ok (.slice (some ⟨w.heap.size, 0, none⟩) 0 c) (w.alloc (.cells (madeCells #[.int .i64 0, .int .u32 0, .int .u32 0, .int .u32 0, .int .u32 0, .int .u16 0, .int .u16 0, .int .u16 0, .int .u16 0, .int .u8 0, .int .u8 0] (c * 11)) 159)) := by
 obtain ⟨i0, hi, hz0, hz1, hz2⟩ := info_parts infoZ
 have hmk := run_make (P := Tryz.prog) w 133 159 i0 _ Tryz.underlying133 hi hz0 .i64 .i64 (0 : Int) (c : Int) (by omega) (by omega) (by rw [hz2]; omega) (by omega)
 simp only [hz1, show ((0 : Int)).toNat = 0 from rfl, show ((c : Int)).toNat = c by omega] at hmk
 exact hmk
theorem made_rowZ (w : World) (c : Nat) (hc : c ≤ 64) : RowZ (w.alloc (.cells (madeCells #[.int .i64 0, .int .u32 0, .int .u32 0, .int .u32 0, .int .u32 0, .int .u16 0, .int .u16 0, .int .u16 0, .int .u16 0, .int .u8 0, .int .u8 0] (c * 11)) 159)) w.heap.size (.slice (some ⟨w.heap.size, 0, none⟩) 0 c) [] :=
 ⟨rfl, .inr ⟨w.heap.size, c, _, rfl, Nat.le_refl _, blk_new w _, Nat.zero_le _, by unfold maxLen; omega, size_madeCells _ _, by simp [flatZ]⟩⟩
theorem rowZ_stay {w w' : World} {b : Nat} {v : Value} {l : List CtE} (h : RowZ w b v l) (hb : ∀ k, v.ownBlock = some k → w'.heap[k]? = w.heap[k]?) : RowZ w' b v l := by
 refine ⟨h.1, ?_⟩
 rcases h.2 with h2 | ⟨g, cap, cur, hvv, hg, hh, r⟩
 ·exact .inl h2
 ·exact .inr ⟨g, cap, cur, hvv, hg, by rw [hb g (by rw [hvv]; rfl)]; exact hh, r⟩
theorem ct_loadL {P : Program} {ops : Array Oper} {rest : List Oper} {op : Oper} {a : Act} {w : World} {Q : Exit → Act → World → Prop} (hgd : op.guard = none) (ty : TypeId) (x : Operand) (ho : op.op = .load ty x)
  (B o : Nat) (cs : Array Value) (hx : a.eval x = .pointer (some ⟨B, o, none⟩)) (h : w.rangeAt B o cs.toList) {d : TypeDesc} (hu : P.underlying ty = some d) (hd : d.isRow = true) (hi : (P.info? ty).map (·.size) = some cs.size)
  (hk : wpList P ops Q rest (a.put op.dst (.agg cs)) w) : wpList P ops Q (op :: rest) a w := by
 refine wpList_plain hgd fun K hK => ?_
 have hl := run_loadVar_mid (P := P) w B o ty cs.toList d h hu hd (by simpa using hi)
 unfold Oper.wp execOp
 simp only [ho, hx, Instr.loadAt, Instr.sureAddr, Sem.run_bind, Sem.run_pure, Result.andThen_ok, hl]
 exact hK _ _ hk
theorem Only.drew (B : Nat) (w : World) : Only B w w.drew := ⟨rfl, rfl, rfl, rfl, fun _ _ => rfl⟩
theorem Only.trans {B : Nat} {w w1 w2 : World} (h : Only B w w1) (k : Only B w1 w2) : Only B w w2 := ⟨k.os.trans h.os, k.tape.trans h.tape, k.output.trans h.output, k.size.trans h.size, fun j hj => (k.block j hj).trans (h.block j hj)⟩
theorem Only.rng {B : Nat} {w w' : World} (h : Only B w w') {b o : Nat} {cs : List Value} (hb : b ≠ B) (r : w.rangeAt b o cs) : w'.rangeAt b o cs := fun j v hv => h.cell hb (r j v hv)
theorem rng_bel {B : Nat} {w w' : World} (h : Below B w w') {b o : Nat} {cs : List Value} (hb : b < B) (r : w.rangeAt b o cs) : w'.rangeAt b o cs := fun j v hv => by rw [h.cell (p := ⟨b, o + j, none⟩) hb]; exact r j v hv
theorem rngAll {w : World} {B : Nat} {cs : Array Value} {t : TypeId} {fr : Nat × Nat} (h : w.heap[B]? = some (.cells cs t fr)) : w.rangeAt B 0 cs.toList := by
 have := World.rangeAt_of_block h 0 cs.size
 simpa using this
theorem rng_two {w : World} {b : Nat} {v0 v1 : Value} {t : TypeId} {fr : Nat × Nat} (h : w.heap[b]? = some (.cells #[v0, v1] t fr)) : w.rangeAt b 0 [v0, v1]
 | 0, _, e => by cases e; exact blk_cell h rfl
 | 1, _, e => by cases e; exact blk_cell h rfl
 | _ + 2, _, e => by cases e
theorem rng_sub {w : World} {b o : Nat} {cs : List Value} (h : w.rangeAt b o cs) (p n : Nat) : w.rangeAt b (o + p) ((cs.drop p).take n) := fun j v hv => by
 have h1 : cs[p + j]? = some v := by
  by_cases hj : j < n
  ·rw [List.getElem?_take_of_lt hj, List.getElem?_drop] at hv; exact hv
  ·rw [List.getElem?_eq_none (by simp; omega)] at hv; cases hv
 rw [show o + p + j = o + (p + j) by omega]
 exact h (p + j) v h1
structure NarS (w W : World) (Bh g m cap : Nat) (oP oT oR oH : Obj) (R : List CtE) : Prop where
 hp : W.heap[w.heap.size]? = some oP
 ht : W.heap[w.heap.size + 1]? = some oT
 hr : W.heap[w.heap.size + 1 + 1]? = some oR
 hh : W.heap[Bh]? = some oH
 row : RowZ W w.heap.size (.slice (some ⟨g, 0, none⟩) m cap) R
 ne : Bh ≠ g ∧ w.heap.size + 1 + 1 < Bh ∧ w.heap.size + 1 + 1 < g
 bel : Below w.heap.size w W
theorem NarS.on {w W W' : World} {Bh g m cap : Nat} {oP oT oR oH : Obj} {R : List CtE} (h : NarS w W Bh g m cap oP oT oR oH R) (hb : Below W.heap.size W W') : NarS w W' Bh g m cap oP oT oR oH R :=
 ⟨blk_on h.hp hb, blk_on h.ht hb, blk_on h.hr hb, blk_on h.hh hb, h.row.on hb, h.ne, h.bel.trans (hb.mono h.bel.size)⟩
theorem NarS.len {w W : World} {Bh g m cap : Nat} {oP oT oR oH : Obj} {R : List CtE} (h : NarS w W Bh g m cap oP oT oR oH R) : R.length = m := by
 rcases h.row.2 with ⟨hv, _⟩ | ⟨g', cap', cur, hv, _⟩
 ·cases hv
 ·injection hv with e1 e2 e3
  exact e2.symm
theorem NarS.glt {w W : World} {Bh g m cap : Nat} {oP oT oR oH : Obj} {R : List CtE} (h : NarS w W Bh g m cap oP oT oR oH R) : g < W.heap.size := (h.row.lt g rfl).2
theorem NarS.half {w W W' : World} {Bh g m cap : Nat} {oP oT oR oH oH' : Obj} {R : List CtE} (h : NarS w W Bh g m cap oP oT oR oH R) (hw : W'.heap[Bh]? = some oH') (ho : Only Bh W W') : NarS w W' Bh g m cap oP oT oR oH' R := by
 obtain ⟨n1, n2, n3⟩ := h.ne
 exact ⟨by rw [ho.block _ (by omega)]; exact h.hp, by rw [ho.block _ (by omega)]; exact h.ht, by rw [ho.block _ (by omega)]; exact h.hr, hw, rowZ_stay h.row (fun k hk => ho.block k (by simp [Value.ownBlock] at hk; omega)), h.ne, h.bel.trans (ho.below (by omega))⟩
theorem NarS.field {w W W' : World} {Bh g m cap : Nat} {oP oT oR oH : Obj} {R R' : List CtE} (h : NarS w W Bh g m cap oP oT oR oH R) (hw : RowZ W' w.heap.size (.slice (some ⟨g, 0, none⟩) m cap) R') (ho : Only g W W') : NarS w W' Bh g m cap oP oT oR oH R' := by
 obtain ⟨n1, n2, n3⟩ := h.ne
 exact ⟨by rw [ho.block _ (by omega)]; exact h.hp, by rw [ho.block _ (by omega)]; exact h.ht, by rw [ho.block _ (by omega)]; exact h.hr, by rw [ho.block _ n1]; exact h.hh, hw, h.ne, h.bel.trans (ho.below (by omega))⟩
theorem NarS.app {w W W' : World} {Bh g m cap g' m' cap' : Nat} {oP oT oR : Obj} {cs : Array Value} {ty : TypeId} {R R' : List CtE} (h : NarS w W Bh g m cap oP oT oR (.cells cs ty) R) (hr : RowZ W' w.heap.size (.slice (some ⟨g', 0, none⟩) m' cap') R') (hg : W.grownBy W' (some g)) (hat : g' = g ∨ g' = W.heap.size) :
  W'.heap[Bh]? = some (.cells cs ty) ∧ NarS w (W'.setCell ⟨Bh, 10, none⟩ (.slice (some ⟨g', 0, none⟩) m' cap')) Bh g' m' cap' oP oT oR (.cells (cs.setIfInBounds 10 (.slice (some ⟨g', 0, none⟩) m' cap')) ty) R' ∧ ∀ k o, k ≠ g → k ≠ Bh → W.heap[k]? = some o → (W'.setCell ⟨Bh, 10, none⟩ (.slice (some ⟨g', 0, none⟩) m' cap')).heap[k]? = some o := by
 obtain ⟨n1, n2, n3⟩ := h.ne
 have l1 := blk_lt h.hh
 have l2 := h.bel.size
 have bh : ∀ k o, k ≠ g → W.heap[k]? = some o → W'.heap[k]? = some o := fun k o hk hw => by rw [hg.block k (blk_lt hw) (by intro e; injection e with e; exact hk e)]; exact hw
 have hB := bh Bh _ n1 h.hh
 have n4 : Bh ≠ g' := by rcases hat with e | e <;> omega
 refine ⟨hB, ⟨blk_far (bh _ _ (by omega) h.hp) (by omega) _, blk_far (bh _ _ (by omega) h.ht) (by omega) _, blk_far (bh _ _ (by omega) h.hr) (by omega) _, blk_set hB _, hr.put (by simp [Value.ownBlock]; exact n4) _, ⟨n4, n2, by rcases hat with e | e <;> omega⟩, ?_⟩, fun k o h1 h2 h3 => blk_far (bh k o h1 h3) h2 _⟩
 exact (Below.grown h.bel hg (h.bel.size) (fun k hk => by injection hk with hk; omega)).setCell (by simp; omega) _
theorem idxZ (w : World) (g off n cap k : Nat) (h : k < n) : (Instr.indexAt 133 (.slice (some ⟨g, off, none⟩) n cap) (.int .i64 k)).run Tryz.prog w = .ok (.pointer (some ⟨g, off + k * 11, none⟩)) w := by
 obtain ⟨i0, hi, hz0, hz1, hz2⟩ := info_parts infoZ
 have h0 : (0 : Int) ≤ (k : Int) := by omega
 have h1 : (k : Int) < (n : Int) := by omega
 simp [Instr.indexAt, run_underlying Tryz.underlying133, asIntOf, go_sem, hi, hz1, h0, h1, Addr.add, h]
 try (intro e; subst e; simp)
theorem idxZ0 (w : World) (g n cap k : Nat) (h : k < n) : (Instr.indexAt 133 (.slice (some ⟨g, 0, none⟩) n cap) (.int .i64 k)).run Tryz.prog w = .ok (.pointer (some ⟨g, k * 11, none⟩)) w := by
 have := idxZ w g 0 n cap k h
 rwa [Nat.zero_add] at this
theorem seg_list {α : Type} (A S D cs : List α) (a o : Nat) (ha : A.length = a) (hs : o + cs.length ≤ S.length) : (A ++ S ++ D).take (a + o) ++ cs ++ (A ++ S ++ D).drop (a + o + cs.length) = A ++ (S.take o ++ cs ++ S.drop (o + cs.length)) ++ D := by
 subst ha
 have e1 : (A ++ S ++ D).take (A.length + o) = A ++ S.take o := by
  rw [List.append_assoc, List.take_append, List.take_of_length_le (by omega), Nat.add_sub_cancel_left, List.take_append_of_le_length (by omega)]
 have e2 : (A ++ S ++ D).drop (A.length + o + cs.length) = S.drop (o + cs.length) ++ D := by
  rw [List.append_assoc, List.drop_append, List.drop_eq_nil_of_le (by omega), show A.length + o + cs.length - A.length = o + cs.length by omega, List.drop_append_of_le_length hs, List.nil_append]
 rw [e1, e2]
 simp only [List.append_assoc]
theorem rowZ_field {w : World} {b g m cap o : Nat} {R : List CtE} {e e' : CtE} {cs : List Value} (hR : RowZ w b (.slice (some ⟨g, 0, none⟩) (m + 1) cap) (R ++ [e])) (hm : R.length = m) (hc : cs.length = 2) (ho : o + 2 ≤ 11)
  (he : encZ e' = (encZ e).take o ++ cs ++ (encZ e).drop (o + 2)) :
  ∃ cur new : Array Value, w.heap[g]? = some (.cells cur 159 (0, 0)) ∧ m * 11 + o + 2 ≤ cur.size ∧ cur.toList.take (m * 11 + o) ++ cs ++ cur.toList.drop (m * 11 + o + 2) = new.toList ∧
   ∀ w', w'.heap[g]? = some (.cells new 159 (0, 0)) → RowZ w' b (.slice (some ⟨g, 0, none⟩) (m + 1) cap) (R ++ [e']) := by
 obtain ⟨cur, hg, hsz, hcap, htk⟩ : ∃ cur : Array Value, w.heap[g]? = some (.cells cur 159 (0, 0)) ∧ cur.size = cap * 11 ∧ m + 1 ≤ cap ∧ cur.toList.take ((R ++ [e]).length * 11) = flatZ (R ++ [e]) := by
  rcases hR.2 with ⟨hv, _⟩ | ⟨g', cap', cur, hv, hb, hg, hc, hm', hs, ht⟩
  ·cases hv
  ·injection hv with e1 e2 e3
   injection e1 with e4
   injection e4 with e5
   subst e5 e3
   exact ⟨cur, hg, hs, by simp at hc; omega, ht⟩
 have hl : (R ++ [e]).length = m + 1 := by simp [hm]
 rw [hl] at htk
 have hsplit : cur.toList = flatZ R ++ encZ e ++ cur.toList.drop ((m + 1) * 11) := by
  have h1 : flatZ (R ++ [e]) = flatZ R ++ encZ e := by rw [flatZ_append]; simp [flatZ]
  rw [← h1, ← htk, List.take_append_drop]
 have hA : (flatZ R).length = m * 11 := by rw [flatZ_length, hm]
 have hE : (encZ e).length = 11 := by simp [encZ]
 refine ⟨cur, (flatZ R ++ encZ e' ++ cur.toList.drop ((m + 1) * 11)).toArray, hg, by rw [hsz]; omega, ?_, fun w' hw' => ?_⟩
 ·have k := seg_list (flatZ R) (encZ e) (cur.toList.drop ((m + 1) * 11)) cs (m * 11) o hA (by rw [hc, hE]; exact ho)
  rw [hc] at k
  rw [← hsplit] at k
  rw [k, he]
 ·have ov := hR.over (w' := w') m [e'] (by simp) (fun cur' hg' => by
   rw [hg] at hg'
   cases hg'
   rw [hw']
   have h2 : flatZ [e'] = encZ e' := by simp [flatZ]
   have h3 : (encZ e').length = 11 := by simp [encZ]
   have h4 : cur.toList.take (m * 11) = flatZ R := by
    rw [hsplit, List.append_assoc, List.take_append_of_le_length (by omega), List.take_of_length_le (by omega)]
   rw [h2, h3, h4, show (m + 1) * 11 = m * 11 + 11 by omega])
  have h5 : (R ++ [e]).take m ++ [e'] ++ (R ++ [e]).drop (m + [e'].length) = R ++ [e'] := by
   rw [List.take_append_of_le_length (by omega), List.take_of_length_le (by omega), List.drop_eq_nil_of_le (by simp; omega), List.append_nil]
  rw [h5] at ov
  exact ov
theorem metRunC (s t : Nat × Nat) : ∃ (v : Nat × Nat) (b : Bool), ((metF 0 s t = some v ∧ b = true) ∨ (metF 0 s t = none ∧ b = false)) ∧ ∀ W : World, Calls Tryz.prog 86 #[.agg #[.int .u32 s.1, .int .u32 s.2], .agg #[.int .u32 t.1, .int .u32 t.2]] W fun e w' => e = .returned (.tuple #[.agg #[.int .u32 v.1, .int .u32 v.2], .bool b]) ∧ Below W.heap.size W w' := by
 by_cases h : max s.1 t.1 ≤ min s.2 t.2
 ·have e : Xb.okI (Xb.meetI s t) = true := decide_eq_true h
  exact ⟨Xb.meetI s t, true, .inl ⟨by unfold metF; rw [if_pos (by decide), if_pos e], rfl⟩, fun W => meetRun_yes s.1 s.2 t.1 t.2 W h⟩
 ·have e : Xb.okI (Xb.meetI s t) = false := decide_eq_false h
  exact ⟨(0, 0), false, .inr ⟨by unfold metF; rw [if_pos (by decide), if_neg (by rw [e]; simp)], rfl⟩, fun W => meetRun_no s.1 s.2 t.1 t.2 W h⟩
theorem metSpanC (s t : Nat × Nat) : ∃ (v : Nat × Nat) (b : Bool), ((metF 2 s t = some v ∧ b = true) ∨ (metF 2 s t = none ∧ b = false)) ∧ ∀ W : World, Calls Tryz.prog 91 #[.agg #[.int .u16 s.1, .int .u16 s.2], .agg #[.int .u16 t.1, .int .u16 t.2]] W fun e w' => e = .returned (.tuple #[.agg #[.int .u16 v.1, .int .u16 v.2], .bool b]) ∧ Below W.heap.size W w' := by
 by_cases h : max s.1 t.1 ≤ min s.2 t.2
 ·have e : Xb.okI (Xb.meetI s t) = true := decide_eq_true h
  exact ⟨Xb.meetI s t, true, .inl ⟨by unfold metF; rw [if_pos (by decide), if_pos e], rfl⟩, fun W => Xb.meetS_yes s.1 s.2 t.1 t.2 W h⟩
 ·have e : Xb.okI (Xb.meetI s t) = false := decide_eq_false h
  exact ⟨(0, 0), false, .inr ⟨by unfold metF; rw [if_pos (by decide), if_neg (by rw [e]; simp)], rfl⟩, fun W => Xb.meetS_no s.1 s.2 t.1 t.2 W h⟩
theorem metMaskC (s t : Nat × Nat) (hs : okM s.1 s.2 = true) (ht : okM t.1 t.2 = true) (s1 : s.1 < 256) (s2 : s.2 < 256) (t1 : t.1 < 256) (t2 : t.2 < 256) : ∃ (v : Nat × Nat) (b : Bool), ((metF 4 s t = some v ∧ b = true) ∨ (metF 4 s t = none ∧ b = false)) ∧ ∀ W : World, Calls Tryz.prog 96 #[.agg #[.int .u8 s.1, .int .u8 s.2], .agg #[.int .u8 t.1, .int .u8 t.2]] W fun e w' => e = .returned (.tuple #[.agg #[.int .u8 v.1, .int .u8 v.2], .bool b]) ∧ Below W.heap.size W w' := by
 cases h : apM s.1 s.2 t.1 t.2
 ·exact ⟨(s.1 ||| t.1, s.2 ||| t.2), true, .inl ⟨by unfold metF; rw [if_neg (by decide), if_neg (by rw [h]; simp)], rfl⟩, fun W => meet_yes s.1 s.2 t.1 t.2 W s1 s2 t1 t2 (by rw [hs, ht, h]; rfl)⟩
 ·exact ⟨(0, 0), false, .inr ⟨by unfold metF; rw [if_neg (by decide), if_pos h], rfl⟩, fun W => meet_no s.1 s.2 t.1 t.2 W s1 s2 t1 t2 (by rw [h]; simp)⟩
theorem gr_drew (w : World) (X : Nat) : w.grownBy w.drew (some X) := ⟨rfl, rfl, rfl, Nat.le_refl _, fun _ _ _ => rfl⟩
theorem gr_then {w w1 w2 : World} {X : Nat} (hg : w.grownBy w1 (some X)) (hb : Below w1.heap.size w1 w2) : w.grownBy w2 (some X) :=
 ⟨hb.os.trans hg.os, hb.tape.trans hg.tape, hb.output.trans hg.output, Nat.le_trans hg.size hb.size, fun k hk e => by rw [hb.block k (Nat.lt_of_lt_of_le hk hg.size), hg.block k hk e]⟩
theorem gr_only {w w1 w2 : World} {X : Nat} (hg : w.grownBy w1 (some X)) (ho : Only X w1 w2) : w.grownBy w2 (some X) :=
 ⟨ho.os.trans hg.os, ho.tape.trans hg.tape, ho.output.trans hg.output, Nat.le_trans hg.size (Nat.le_of_eq ho.size.symm), fun k hk e => by rw [ho.block k (fun e' => e (by rw [e'])), hg.block k hk e]⟩
theorem gr_cell {w w1 : World} {X b o : Nat} {v : Value} (hg : w.grownBy w1 (some X)) (hk : b ≠ X) (h : w.cell? ⟨b, o, none⟩ = some v) : w1.cell? ⟨b, o, none⟩ = some v := by
 have hl : b < w.heap.size := World.block_lt_of_cell? w _ h
 unfold World.cell? at *
 rw [hg.block b hl (fun e => hk (by injection e))]; exact h
theorem gr_rng {w w1 : World} {X b o : Nat} {cs : List Value} (hg : w.grownBy w1 (some X)) (hk : b ≠ X) (h : w.rangeAt b o cs) : w1.rangeAt b o cs := fun j v hv => gr_cell hg hk (h j v hv)
theorem SrcZ.gr {w0 w W : World} {v : Value} {l : List CtE} {X : Nat} (h : SrcZ w0 v l) (hb : Below w0.heap.size w0 w) (hg : w.grownBy W (some X)) (hX : w0.heap.size ≤ X) : SrcZ W v l := by
 obtain ⟨ad, cap, rfl, hc, h2⟩ := h
 refine ⟨ad, cap, rfl, hc, fun h0 => ?_⟩
 obtain ⟨g, off, rfl, h3⟩ := h2 h0
 exact ⟨g, off, rfl, fun k hk j hj => by
  have := h3 k hk j hj
  obtain ⟨u, hu⟩ := encZ_some (l[k]'hk) hj
  have hl : g < w0.heap.size := World.block_lt_of_cell? w0 _ (this.trans hu)
  rw [hu]
  exact gr_cell hg (by omega) (cell_on1 hb (this.trans hu))⟩
structure EnvT (w : World) (HF FF NF MF : Nat) (bh bf bn bm : Nat) : Prop where
 h : w.cell? ⟨bh, 0, none⟩ = some (.func (.func HF) #[] #[])
 f : w.cell? ⟨bf, 0, none⟩ = some (.func (.func FF) #[] #[])
 n : w.cell? ⟨bn, 0, none⟩ = some (.func (.func NF) #[] #[.pointer (some ⟨bf, 0, none⟩), .pointer (some ⟨bm, 0, none⟩)])
 m : w.cell? ⟨bm, 0, none⟩ = some (.func (.func MF) #[] #[])
theorem EnvT.on {w w1 : World} {HF FF NF MF bh bf bn bm : Nat} (h : EnvT w HF FF NF MF bh bf bn bm) (hb : Below w.heap.size w w1) : EnvT w1 HF FF NF MF bh bf bn bm := ⟨cell_on1 hb h.h, cell_on1 hb h.f, cell_on1 hb h.n, cell_on1 hb h.m⟩
structure CtR (W : World) (b : Nat) (c : Ct2) (d : Part × Part) : Prop where
 x : c.1.x = d.1.1
 y : c.2.x = d.2.1
 rx : RowZ W b (.slice c.1.ad c.1.n c.1.cap) d.1.2
 ry : RowZ W b (.slice c.2.ad c.2.n c.2.cap) d.2.2
theorem CtR.on {W W1 : World} {b : Nat} {c : Ct2} {d : Part × Part} (h : CtR W b c d) (hb : Below W.heap.size W W1) : CtR W1 b c d := ⟨h.x, h.y, h.rx.on hb, h.ry.on hb⟩
theorem CtR.base {W : World} {b b' : Nat} {c : Ct2} {d : Part × Part} (h : CtR W b c d) (hb : b' ≤ b) : CtR W b' c d := ⟨h.x, h.y, h.rx.base hb, h.ry.base hb⟩
theorem rowZ_n {W : World} {b : Nat} {ad : Option Addr} {n cap : Nat} {l : List CtE} (h : RowZ W b (.slice ad n cap) l) : n = l.length := by
 obtain ⟨ad', cap', e, _⟩ := h.form
 cases e; rfl
theorem CtR.more {W : World} {b : Nat} {c : Ct2} {d : Part × Part} (h : CtR W b c d) : moreQ c = moreC d ∧ bothQ c = bothC d := by
 unfold moreQ moreC bothQ bothC
 rw [rowZ_n h.rx, rowZ_n h.ry]
 exact ⟨rfl, rfl⟩
def TriOut (W : World) (b : Nat) (o : Option (Part × Part)) (e : Ending) : Prop := ∃ c : Ct2, e = .returned (.tuple #[.agg #[.int .u32 c.1.x.a.1, .int .u32 c.1.x.a.2, .int .u32 c.1.x.b.1, .int .u32 c.1.x.b.2, .int .u16 c.1.x.c.1, .int .u16 c.1.x.c.2, .int .u16 c.1.x.d.1, .int .u16 c.1.x.d.2, .int .u8 c.1.x.m.1, .int .u8 c.1.x.m.2, .slice c.1.ad c.1.n c.1.cap, .int .u32 c.2.x.a.1, .int .u32 c.2.x.a.2, .int .u32 c.2.x.b.1, .int .u32 c.2.x.b.2, .int .u16 c.2.x.c.1, .int .u16 c.2.x.c.2, .int .u16 c.2.x.d.1, .int .u16 c.2.x.d.2, .int .u8 c.2.x.m.1, .int .u8 c.2.x.m.2, .slice c.2.ad c.2.n c.2.cap], .bool o.isSome]) ∧ ∀ d, o = some d → CtR W b c d
end Go.Proofs.YtgokmkholjfhbaaGreat

