/-
  PkAO: NsU, one behind the other (tools/pack.py).
-/
import Derived.Test.YtgokmkholjfhbaaGreatPkAN
import Derived.Test.YtgokmkholjfhbaaGreatPkAH
import Derived.Test.YtgokmkholjfhbaaGreatPkAD
import Derived.Test.YtgokmkholjfhbaaGreatProg
import Derived.Maps.AppendAt
import Derived.OwnWalk
import Derived.Deep.AppendLies
import Derived.Laws.CopyOwn
import Derived.Deep.DeepCutAuto
import Derived.RegionTactic
import Derived.BigRegion
import Derived.Test.YtgokmkholjfhbaaGreatPkAE
import Derived.Test.YtgokmkholjfhbaaGreatPkAL
set_option linter.unusedVariables false
set_option linter.unusedSimpArgs false
namespace Go.Proofs.YtgokmkholjfhbaaGreat
open Go.RowKit
def encS (p : (Nat × Nat)) : List Value := [.int .u16 p.1, .int .u16 p.2]
def flatS : List ((Nat × Nat)) → List Value
 | [] => []
 | p :: l => encS p ++ flatS l
theorem flatS_length (l : List ((Nat × Nat))) : (flatS l).length = l.length * 2 := by
 induction l with
 | nil => rfl
 | cons p l ih => simp only [flatS, encS, List.length_append, List.length_cons, List.length_nil, ih]; omega
theorem flatS_append (l k : List ((Nat × Nat))) : flatS (l ++ k) = flatS l ++ flatS k := by
 induction l with
 | nil => rfl
 | cons p l ih => simp only [flatS, List.cons_append, ih, List.append_assoc]
theorem flatS_one (l : List ((Nat × Nat))) : ∀ u ∈ flatS l, u.oneCell' = true := by
 induction l with
 | nil => intro u hu; cases hu
 | cons p l ih =>
  intro u hu
  simp only [flatS, List.mem_append] at hu
  rcases hu with hu | hu
  ·simp only [encS, List.mem_cons, List.not_mem_nil, or_false] at hu
   rcases hu with rfl | rfl <;> rfl
  ·exact ih u hu
theorem flatS_at : ∀ (l : List ((Nat × Nat))) (i : Nat) (h : i < l.length) (j : Nat) (hj : j < 2), (flatS l)[i * 2 + j]? = (encS (l[i]'h))[j]?
 | p :: l, 0, _, j, hj => by
  rw [Nat.zero_mul, Nat.zero_add]
  exact List.getElem?_append_left (by simp [encS]; omega)
 | p :: l, i + 1, h, j, hj => by
  have := flatS_at l i (by simpa using h) j hj
  show (encS p ++ flatS l)[(i + 1) * 2 + j]? = _
  rw [List.getElem?_append_right (by simp [encS]; omega), show (i + 1) * 2 + j - (encS p).length = i * 2 + j by simp [encS]; omega]
  exact this
theorem infoS : (Tryz.prog.info? 60).map (fun i => (i.zero, i.size, i.bytes)) = some (some (.agg #[.int .u16 0, .int .u16 0]), 2, 4) := by kernel_rfl
def RowS (w : World) (base : Nat) (v : Value) (l : List ((Nat × Nat))) : Prop := w.ownsRow base 60 2 v l.length (flatS l)
theorem RowS.base {w : World} {b b' : Nat} {v : Value} {l : List ((Nat × Nat))} (h : RowS w b v l) (hb : b' ≤ b) : RowS w b' v l := by
 refine ⟨h.1, ?_⟩
 rcases h.2 with h2 | ⟨g, cap, cur, hv, hg, r⟩
 ·exact .inl h2
 ·exact .inr ⟨g, cap, cur, hv, by omega, r⟩
theorem RowS.on {w w1 : World} {b : Nat} {v : Value} {l : List ((Nat × Nat))} (h : RowS w b v l) (hb : Below w.heap.size w w1) : RowS w1 b v l := by
 refine ⟨h.1, ?_⟩
 rcases h.2 with h2 | ⟨g, cap, cur, hv, hg, hh, r⟩
 ·exact .inl h2
 ·exact .inr ⟨g, cap, cur, hv, hg, by rw [hb.block g (Array.getElem?_eq_some_iff.1 hh).1]; exact hh, r⟩
theorem RowS.alloc {w : World} {b : Nat} {v : Value} {l : List ((Nat × Nat))} (h : RowS w b v l) (o : Obj) : RowS (w.alloc o) b v l := World.ownsRow.alloc h o
theorem RowS.drew {w : World} {b : Nat} {v : Value} {l : List ((Nat × Nat))} (h : RowS w b v l) : RowS w.drew b v l := h
theorem RowS.nil (w : World) (b : Nat) : RowS w b (.slice none 0 0) [] := World.ownsRow_nil w b _ _
theorem RowS.one (w : World) (b : Nat) (p : (Nat × Nat)) (hb : b ≤ w.heap.size) : RowS (w.alloc (.cells #[.int .u16 p.1, .int .u16 p.2] 60)) b (.slice (some ⟨w.heap.size, 0, none⟩) 1 1) [p] :=
 World.ownsRow_lit w #[.int .u16 p.1, .int .u16 p.2] 1 hb (by simp [maxLen]) rfl
theorem RowS.lt {w : World} {b : Nat} {v : Value} {l : List ((Nat × Nat))} (h : RowS w b v l) : ∀ k, v.ownBlock = some k → b ≤ k ∧ k < w.heap.size := World.ownsRow.lt h
theorem RowS.put {w : World} {b : Nat} {v : Value} {l : List ((Nat × Nat))} (h : RowS w b v l) {g i : Nat} (hg : some g ≠ v.ownBlock) (u : Value) : RowS (w.setCell ⟨g, i, none⟩ u) b v l := by
 refine ⟨h.1, ?_⟩
 rcases h.2 with h2 | ⟨g', cap, cur, hv, hb, hh, r⟩
 ·exact .inl h2
 ·exact .inr ⟨g', cap, cur, hv, hb, by rw [Below.heap_setCell _ _ _ _ (by intro e; apply hg; rw [hv]; simp [Value.ownBlock, e])]; exact hh, r⟩
theorem run_appendS (w : World) (ty : TypeId) (b : Nat) (v : Value) (l : List ((Nat × Nat))) (h : RowS w b v l) (c : Nat) (u : Value) (k : List ((Nat × Nat))) (hk : RowS w c u k)
  (hb : b ≤ w.heap.size) (hsz : l.length + k.length ≤ 4294967296) :
  ∃ v' w', (Builtin.append_ #[218, 218] ty #[v, u]).run Tryz.prog w = .ok v' w' ∧ RowS w' b v' (l ++ k) ∧ w.grownBy w' v.ownBlock := by
 obtain ⟨i0, hi, hz0, hz1, hz2⟩ := info_parts infoS
 have hmx : l.length + k.length ≤ maxLen := by unfold maxLen; omega
 rcases hk.2 with ⟨rfl, hk0⟩ | ⟨g, cap, cur, rfl, hg, hh, hnc, hcm, hcs, htk⟩
 ·have hr := run_append_owned_none (P := Tryz.prog) (w := w) b 218 ty 60 i0 2 Tryz.underlying218 hi v l.length (flatS l) h
  refine ⟨v, w, hr, ?_, ⟨rfl, rfl, rfl, Nat.le_refl _, fun _ _ _ => rfl⟩⟩
  rw [List.eq_nil_of_length_eq_zero hk0, List.append_nil]
  exact h
 ·have hn := World.ownsRow.cells hk (g := g) rfl
  obtain ⟨v', w', hr, ho, hgr, _⟩ := run_append_own (P := Tryz.prog) w b 218 ty 60 i0 (.agg #[.int .u16 0, .int .u16 0]) 2 4 Tryz.underlying218 hi hz0 hz1 hz2 rfl (by decide) v l.length (flatS l) h ⟨g, 0, none⟩ k.length cap (flatS k) (flatS_length k) hn (flatS_one k) hmx (by omega) hb
  refine ⟨v', w', hr, ?_, hgr⟩
  unfold RowS
  rw [List.length_append, flatS_append]
  exact ho
theorem wp_appendS {o : Oper} {a : Act} {w : World} {K : Act → World → Prop} {Q : Exit → Act → World → Prop} (s x : Operand)
  (ho : o.op = .call { callee := .builtin .append, args := #[s, x], argTypes := #[218, 218] })
  (b : Nat) (v : Value) (l : List ((Nat × Nat))) (hs : a.eval s = v) (h : RowS w b v l) (c : Nat) (u : Value) (k : List ((Nat × Nat))) (hx : a.eval x = u) (hk : RowS w c u k)
  (hb : b ≤ w.heap.size) (hsz : l.length + k.length ≤ 4294967296)
  (hK : ∀ v' w', RowS w' b v' (l ++ k) → w.grownBy w' v.ownBlock → K (a.put o.dst v') w') : o.wp Tryz.prog a w K Q := by
 obtain ⟨v', w', hr, h2, h3⟩ := run_appendS w o.type b v l h c u k hk hb hsz
 unfold Oper.wp execOp
 simp only [ho, resolve, invoke, builtin, Sem.run_bind, Sem.run_pure, Result.andThen_ok, List.map_toArray, List.map_cons, List.map_nil, hs, hx, hr]
 exact hK v' w' h2 h3
theorem wpList_appendS {ops : Array Oper} {rest : List Oper} {o : Oper} {a : Act} {w : World} {Q : Exit → Act → World → Prop} (hgd : o.guard = none) (s x : Operand)
  (ho : o.op = .call { callee := .builtin .append, args := #[s, x], argTypes := #[218, 218] })
  (b : Nat) (v : Value) (l : List ((Nat × Nat))) (hs : a.eval s = v) (h : RowS w b v l) (c : Nat) (u : Value) (k : List ((Nat × Nat))) (hx : a.eval x = u) (hk : RowS w c u k)
  (hb : b ≤ w.heap.size) (hsz : l.length + k.length ≤ 4294967296)
  (hK : ∀ v' w', RowS w' b v' (l ++ k) → w.grownBy w' v.ownBlock → wpList Tryz.prog ops Q rest (a.put o.dst v') w') : wpList Tryz.prog ops Q (o :: rest) a w :=
 wpList_plain hgd fun _ hK' => wp_appendS s x ho b v l hs h c u k hx hk hb hsz fun v' w' h2 h3 => hK' _ _ (hK v' w' h2 h3)
theorem bel_grownS {B : Nat} {a w w' : World} {b : Nat} {v : Value} {l : List ((Nat × Nat))} (h : Below B a w) (hr : RowS w b v l) (hg : w.grownBy w' v.ownBlock) (hB : B ≤ w.heap.size) (hb : B ≤ b) : Below B a w' :=
 h.grown hg hB fun k hk => Nat.le_trans hb (hr.lt k hk).1
theorem RowS.form {w : World} {b : Nat} {v : Value} {l : List ((Nat × Nat))} (h : RowS w b v l) :
  ∃ (ad : Option Addr) (cap : Nat), v = .slice ad l.length cap ∧ l.length ≤ cap ∧ (0 < l.length → ∃ g, ad = some ⟨g, 0, none⟩ ∧ b ≤ g ∧ g < w.heap.size ∧ ∀ k (hk : k < l.length) j, j < 2 → w.cell? ⟨g, k * 2 + j, none⟩ = (encS (l[k]'hk))[j]?) := by
 rcases h.2 with ⟨hv, hn⟩ | ⟨g, cap, cur, hv, hb, hg, hcap, r⟩
 ·exact ⟨none, 0, by rw [hv, hn], by omega, fun h0 => by omega⟩
 ·subst hv
  refine ⟨_, cap, rfl, hcap, fun _ => ⟨g, rfl, hb, (Array.getElem?_eq_some_iff.1 hg).1, fun k hk j hj => ?_⟩⟩
  have h' : w.ownsRow b 60 2 (.slice (some ⟨g, 0, none⟩) l.length cap) l.length (flatS l) := h
  rw [h'.cellAt (k * 2 + j) (by omega), flatS_at l k hk j hj]
theorem RowS.frozen {w : World} {b g cap n : Nat} {l : List ((Nat × Nat))} (h : RowS w b (.slice (some ⟨g, 0, none⟩) n cap) l) (j : Nat) : w.frozen? ⟨g, j, none⟩ = false := by
 rcases h.2 with ⟨hv, _⟩ | ⟨g', cap', cur, hv, hb, hg, r⟩
 ·cases hv
 ·cases hv; simp [World.frozen?, hg]
def SrcS (w : World) (v : Value) (l : List (Nat × Nat)) : Prop :=
 ∃ (ad : Option Addr) (cap : Nat), v = .slice ad l.length cap ∧ (l.length ≤ cap ∧ (ad = none → cap = 0)) ∧ (0 < l.length → ∃ g off, ad = some ⟨g, off, none⟩ ∧ ∀ k (hk : k < l.length) j, j < 2 → w.cell? ⟨g, off + (k * 2 + j), none⟩ = (encS (l[k]'hk))[j]?)
theorem encS_some (R : (Nat × Nat)) {j : Nat} (h : j < 2) : ∃ v, (encS R)[j]? = some v := ⟨(encS R)[j]'(by simp [encS]; omega), List.getElem?_eq_getElem _⟩
theorem SrcS.keep {w w1 : World} {v : Value} {l : List (Nat × Nat)} (h : SrcS w v l) (hb : Below w.heap.size w w1) : SrcS w1 v l := by
 obtain ⟨ad, cap, rfl, hc, h2⟩ := h
 refine ⟨ad, cap, rfl, hc, fun h0 => ?_⟩
 obtain ⟨g, off, rfl, h3⟩ := h2 h0
 exact ⟨g, off, rfl, fun k hk j hj => by
  have := h3 k hk j hj
  obtain ⟨u, hu⟩ := encS_some (l[k]'hk) hj
  rw [hb.cell (World.block_lt_of_cell? w _ (this.trans hu))]; exact this⟩
theorem SrcS.stay {w w1 : World} {v : Value} {l : List (Nat × Nat)} (h : SrcS w v l) (hb : ∀ k, v.ownBlock = some k → k < w.heap.size → w1.heap[k]? = w.heap[k]?) : SrcS w1 v l := by
 obtain ⟨ad, cap, rfl, hc, h2⟩ := h
 refine ⟨ad, cap, rfl, hc, fun h0 => ?_⟩
 obtain ⟨g, off, rfl, h3⟩ := h2 h0
 exact ⟨g, off, rfl, fun k hk j hj => by
  have := h3 k hk j hj
  obtain ⟨u, hu⟩ := encS_some (l[k]'hk) hj
  have hlt := World.block_lt_of_cell? w _ (this.trans hu)
  rw [World.cell?_of_block (w := w) (a := ⟨g, off + (k * 2 + j), none⟩) (hb g rfl hlt)]; exact this⟩
theorem RowS.src {w : World} {b : Nat} {v : Value} {l : List (Nat × Nat)} (h : RowS w b v l) : SrcS w v l := by
 obtain ⟨ad, cap, hv, hc, h2⟩ := h.form
 refine ⟨ad, cap, hv, ⟨hc, fun e => ?_⟩, fun h0 => ?_⟩
 ·subst e
  rcases h.2 with ⟨hv', _⟩ | ⟨g, cap', cur, hv', _⟩
  ·rw [hv] at hv'; injection hv'
  ·rw [hv] at hv'; cases hv'
 obtain ⟨g, e, _, _, h3⟩ := h2 h0
 exact ⟨g, 0, e, fun k hk j hj => by rw [Nat.zero_add]; exact h3 k hk j hj⟩
theorem SrcS.flat {w : World} {g off n cap : Nat} {l : List (Nat × Nat)} (h : SrcS w (.slice (some ⟨g, off, none⟩) n cap) l) : ∀ j u, (flatS l)[j]? = some u → w.cell? ((⟨g, off, none⟩ : Addr).add j) = some u := by
 intro j u hu
 obtain ⟨ad, c, e, hc, h2⟩ := h
 cases e
 have hj : j < (flatS l).length := (List.getElem?_eq_some_iff.1 hu).1
 rw [flatS_length] at hj
 obtain ⟨g', off', e', h3⟩ := h2 (by omega)
 cases e'
 have hk : j / 2 < l.length := by omega
 have hm : j % 2 < 2 := Nat.mod_lt _ (by decide)
 have e1 : j / 2 * 2 + j % 2 = j := by omega
 have h4 := flatS_at l (j / 2) hk (j % 2) hm
 rw [e1] at h4
 have h5 := h3 (j / 2) hk (j % 2) hm
 rw [e1] at h5
 rw [Addr.add_lit, h5, ← h4]
 exact hu
theorem flatS_take (l : List (Nat × Nat)) (p : Nat) : (flatS l).take (p * 2) = flatS (l.take p) := by
 by_cases h : p ≤ l.length
 ·have e := flatS_append (l.take p) (l.drop p)
  rw [List.take_append_drop] at e
  rw [e]
  have hl : (flatS (l.take p)).length = p * 2 := by rw [flatS_length, List.length_take]; congr 1; omega
  rw [List.take_append_of_le_length (by omega), List.take_of_length_le (by omega)]
 ·rw [List.take_of_length_le (by rw [flatS_length]; omega), List.take_of_length_le (by omega)]
theorem flatS_drop (l : List (Nat × Nat)) (p : Nat) : (flatS l).drop (p * 2) = flatS (l.drop p) := by
 by_cases h : p ≤ l.length
 ·have e := flatS_append (l.take p) (l.drop p)
  rw [List.take_append_drop] at e
  rw [e]
  have hl : (flatS (l.take p)).length = p * 2 := by rw [flatS_length, List.length_take]; congr 1; omega
  rw [← hl, List.drop_left]
 ·rw [List.drop_eq_nil_of_le (by rw [flatS_length]; omega), List.drop_eq_nil_of_le (by omega)]; rfl
theorem RowS.some {w : World} {b : Nat} {v : Value} {l : List (Nat × Nat)} (h : RowS w b v l) (h0 : 0 < l.length) : ∃ g cap, v = .slice (.some ⟨g, 0, none⟩) l.length cap ∧ l.length ≤ cap ∧ b ≤ g ∧ g < w.heap.size := by
 obtain ⟨ad, cap, hv, hc, h2⟩ := h.form
 obtain ⟨g, rfl, hb, hg, _⟩ := h2 h0
 exact ⟨g, cap, hv, hc, hb, hg⟩
theorem RowS.over {w w' : World} {b g n cap : Nat} {l : List (Nat × Nat)} (h : RowS w b (.slice (.some ⟨g, 0, none⟩) n cap) l) (p : Nat) (k : List (Nat × Nat)) (hf : p + k.length ≤ n)
  (hw : ∀ cur, w.heap[g]? = .some (.cells cur 60 (0, 0)) → w'.heap[g]? = .some (.cells (cur.toList.take (p * 2) ++ flatS k ++ cur.toList.drop (p * 2 + (flatS k).length)).toArray 60 (0, 0))) :
  RowS w' b (.slice (.some ⟨g, 0, none⟩) n cap) (l.take p ++ k ++ l.drop (p + k.length)) := by
 have hn : l.length = n := by
  rcases h.2 with ⟨hv, _⟩ | ⟨g', cap', cur, hv, _⟩
  ·cases hv
  ·cases hv; rfl
 subst hn
 have hlen : (l.take p ++ k ++ l.drop (p + k.length)).length = l.length := by simp; omega
 rcases h.2 with ⟨hv, _⟩ | ⟨g', cap', cur, hv, hb, hg, hc, hm, hs, ht⟩
 ·cases hv
 ·cases hv
  refine ⟨by rw [hlen, flatS_length, hlen], .inr ⟨g, cap, _, by rw [hlen], hb, hw cur hg, by rw [hlen]; exact hc, hm, ?_, ?_⟩⟩
  ·rw [flatS_length]
   simp only [List.size_toArray, List.length_append, List.length_take, List.length_drop, Array.length_toList, flatS_length]
   omega
  ·rw [hlen]
   have e1 : cur.toList.take (p * 2) = flatS (l.take p) := by
    rw [← flatS_take, ← ht, List.take_take]; congr 1; omega
   have e2 : (cur.toList.drop (p * 2 + (flatS k).length)).take (l.length * 2 - (p * 2 + (flatS k).length)) = flatS (l.drop (p + k.length)) := by
    rw [← flatS_drop, ← ht, List.drop_take, flatS_length]
    rw [show p * 2 + k.length * 2 = (p + k.length) * 2 by omega]
   have l1 : (flatS (l.take p)).length = p * 2 := by rw [flatS_length, List.length_take]; omega
   rw [e1, flatS_append, flatS_append, ← e2]
   have l2 := flatS_length k
   rw [List.take_append, List.take_of_length_le (by rw [List.length_append, l1, l2]; omega)]
   congr 2
   rw [List.length_append, l1]
def encX (p : (Nat × Nat)) : List Value := [.int .u32 p.1, .int .i64 p.2]
def flatX : List ((Nat × Nat)) → List Value
 | [] => []
 | p :: l => encX p ++ flatX l
theorem flatX_length (l : List ((Nat × Nat))) : (flatX l).length = l.length * 2 := by
 induction l with
 | nil => rfl
 | cons p l ih => simp only [flatX, encX, List.length_append, List.length_cons, List.length_nil, ih]; omega
theorem flatX_append (l k : List ((Nat × Nat))) : flatX (l ++ k) = flatX l ++ flatX k := by
 induction l with
 | nil => rfl
 | cons p l ih => simp only [flatX, List.cons_append, ih, List.append_assoc]
theorem flatX_one (l : List ((Nat × Nat))) : ∀ u ∈ flatX l, u.oneCell' = true := by
 induction l with
 | nil => intro u hu; cases hu
 | cons p l ih =>
  intro u hu
  simp only [flatX, List.mem_append] at hu
  rcases hu with hu | hu
  ·simp only [encX, List.mem_cons, List.not_mem_nil, or_false] at hu
   rcases hu with rfl | rfl <;> rfl
  ·exact ih u hu
theorem flatX_at : ∀ (l : List ((Nat × Nat))) (i : Nat) (h : i < l.length) (j : Nat) (hj : j < 2), (flatX l)[i * 2 + j]? = (encX (l[i]'h))[j]?
 | p :: l, 0, _, j, hj => by
  rw [Nat.zero_mul, Nat.zero_add]
  exact List.getElem?_append_left (by simp [encX]; omega)
 | p :: l, i + 1, h, j, hj => by
  have := flatX_at l i (by simpa using h) j hj
  show (encX p ++ flatX l)[(i + 1) * 2 + j]? = _
  rw [List.getElem?_append_right (by simp [encX]; omega), show (i + 1) * 2 + j - (encX p).length = i * 2 + j by simp [encX]; omega]
  exact this
theorem infoX : (Tryz.prog.info? 58).map (fun i => (i.zero, i.size, i.bytes)) = some (some (.agg #[.int .u32 0, .int .i64 0]), 2, 16) := by kernel_rfl
def RowX (w : World) (base : Nat) (v : Value) (l : List ((Nat × Nat))) : Prop := w.ownsRow base 58 2 v l.length (flatX l)
theorem RowX.base {w : World} {b b' : Nat} {v : Value} {l : List ((Nat × Nat))} (h : RowX w b v l) (hb : b' ≤ b) : RowX w b' v l := by
 refine ⟨h.1, ?_⟩
 rcases h.2 with h2 | ⟨g, cap, cur, hv, hg, r⟩
 ·exact .inl h2
 ·exact .inr ⟨g, cap, cur, hv, by omega, r⟩
theorem RowX.on {w w1 : World} {b : Nat} {v : Value} {l : List ((Nat × Nat))} (h : RowX w b v l) (hb : Below w.heap.size w w1) : RowX w1 b v l := by
 refine ⟨h.1, ?_⟩
 rcases h.2 with h2 | ⟨g, cap, cur, hv, hg, hh, r⟩
 ·exact .inl h2
 ·exact .inr ⟨g, cap, cur, hv, hg, by rw [hb.block g (Array.getElem?_eq_some_iff.1 hh).1]; exact hh, r⟩
theorem RowX.alloc {w : World} {b : Nat} {v : Value} {l : List ((Nat × Nat))} (h : RowX w b v l) (o : Obj) : RowX (w.alloc o) b v l := World.ownsRow.alloc h o
theorem RowX.drew {w : World} {b : Nat} {v : Value} {l : List ((Nat × Nat))} (h : RowX w b v l) : RowX w.drew b v l := h
theorem RowX.nil (w : World) (b : Nat) : RowX w b (.slice none 0 0) [] := World.ownsRow_nil w b _ _
theorem RowX.one (w : World) (b : Nat) (p : (Nat × Nat)) (hb : b ≤ w.heap.size) : RowX (w.alloc (.cells #[.int .u32 p.1, .int .i64 p.2] 58)) b (.slice (some ⟨w.heap.size, 0, none⟩) 1 1) [p] :=
 World.ownsRow_lit w #[.int .u32 p.1, .int .i64 p.2] 1 hb (by simp [maxLen]) rfl
theorem RowX.lt {w : World} {b : Nat} {v : Value} {l : List ((Nat × Nat))} (h : RowX w b v l) : ∀ k, v.ownBlock = some k → b ≤ k ∧ k < w.heap.size := World.ownsRow.lt h
theorem RowX.put {w : World} {b : Nat} {v : Value} {l : List ((Nat × Nat))} (h : RowX w b v l) {g i : Nat} (hg : some g ≠ v.ownBlock) (u : Value) : RowX (w.setCell ⟨g, i, none⟩ u) b v l := by
 refine ⟨h.1, ?_⟩
 rcases h.2 with h2 | ⟨g', cap, cur, hv, hb, hh, r⟩
 ·exact .inl h2
 ·exact .inr ⟨g', cap, cur, hv, hb, by rw [Below.heap_setCell _ _ _ _ (by intro e; apply hg; rw [hv]; simp [Value.ownBlock, e])]; exact hh, r⟩
theorem bel_grownX {B : Nat} {a w w' : World} {b : Nat} {v : Value} {l : List ((Nat × Nat))} (h : Below B a w) (hr : RowX w b v l) (hg : w.grownBy w' v.ownBlock) (hB : B ≤ w.heap.size) (hb : B ≤ b) : Below B a w' :=
 h.grown hg hB fun k hk => Nat.le_trans hb (hr.lt k hk).1
theorem RowX.form {w : World} {b : Nat} {v : Value} {l : List ((Nat × Nat))} (h : RowX w b v l) :
  ∃ (ad : Option Addr) (cap : Nat), v = .slice ad l.length cap ∧ l.length ≤ cap ∧ (0 < l.length → ∃ g, ad = some ⟨g, 0, none⟩ ∧ b ≤ g ∧ g < w.heap.size ∧ ∀ k (hk : k < l.length) j, j < 2 → w.cell? ⟨g, k * 2 + j, none⟩ = (encX (l[k]'hk))[j]?) := by
 rcases h.2 with ⟨hv, hn⟩ | ⟨g, cap, cur, hv, hb, hg, hcap, r⟩
 ·exact ⟨none, 0, by rw [hv, hn], by omega, fun h0 => by omega⟩
 ·subst hv
  refine ⟨_, cap, rfl, hcap, fun _ => ⟨g, rfl, hb, (Array.getElem?_eq_some_iff.1 hg).1, fun k hk j hj => ?_⟩⟩
  have h' : w.ownsRow b 58 2 (.slice (some ⟨g, 0, none⟩) l.length cap) l.length (flatX l) := h
  rw [h'.cellAt (k * 2 + j) (by omega), flatX_at l k hk j hj]
theorem RowX.frozen {w : World} {b g cap n : Nat} {l : List ((Nat × Nat))} (h : RowX w b (.slice (some ⟨g, 0, none⟩) n cap) l) (j : Nat) : w.frozen? ⟨g, j, none⟩ = false := by
 rcases h.2 with ⟨hv, _⟩ | ⟨g', cap', cur, hv, hb, hg, r⟩
 ·cases hv
 ·cases hv; simp [World.frozen?, hg]
def SrcX (w : World) (v : Value) (l : List (Nat × Nat)) : Prop :=
 ∃ (ad : Option Addr) (cap : Nat), v = .slice ad l.length cap ∧ (l.length ≤ cap ∧ (ad = none → cap = 0)) ∧ (0 < l.length → ∃ g off, ad = some ⟨g, off, none⟩ ∧ ∀ k (hk : k < l.length) j, j < 2 → w.cell? ⟨g, off + (k * 2 + j), none⟩ = (encX (l[k]'hk))[j]?)
theorem encX_some (R : (Nat × Nat)) {j : Nat} (h : j < 2) : ∃ v, (encX R)[j]? = some v := ⟨(encX R)[j]'(by simp [encX]; omega), List.getElem?_eq_getElem _⟩
theorem SrcX.keep {w w1 : World} {v : Value} {l : List (Nat × Nat)} (h : SrcX w v l) (hb : Below w.heap.size w w1) : SrcX w1 v l := by
 obtain ⟨ad, cap, rfl, hc, h2⟩ := h
 refine ⟨ad, cap, rfl, hc, fun h0 => ?_⟩
 obtain ⟨g, off, rfl, h3⟩ := h2 h0
 exact ⟨g, off, rfl, fun k hk j hj => by
  have := h3 k hk j hj
  obtain ⟨u, hu⟩ := encX_some (l[k]'hk) hj
  rw [hb.cell (World.block_lt_of_cell? w _ (this.trans hu))]; exact this⟩
theorem SrcX.stay {w w1 : World} {v : Value} {l : List (Nat × Nat)} (h : SrcX w v l) (hb : ∀ k, v.ownBlock = some k → k < w.heap.size → w1.heap[k]? = w.heap[k]?) : SrcX w1 v l := by
 obtain ⟨ad, cap, rfl, hc, h2⟩ := h
 refine ⟨ad, cap, rfl, hc, fun h0 => ?_⟩
 obtain ⟨g, off, rfl, h3⟩ := h2 h0
 exact ⟨g, off, rfl, fun k hk j hj => by
  have := h3 k hk j hj
  obtain ⟨u, hu⟩ := encX_some (l[k]'hk) hj
  have hlt := World.block_lt_of_cell? w _ (this.trans hu)
  rw [World.cell?_of_block (w := w) (a := ⟨g, off + (k * 2 + j), none⟩) (hb g rfl hlt)]; exact this⟩
theorem RowX.src {w : World} {b : Nat} {v : Value} {l : List (Nat × Nat)} (h : RowX w b v l) : SrcX w v l := by
 obtain ⟨ad, cap, hv, hc, h2⟩ := h.form
 refine ⟨ad, cap, hv, ⟨hc, fun e => ?_⟩, fun h0 => ?_⟩
 ·subst e
  rcases h.2 with ⟨hv', _⟩ | ⟨g, cap', cur, hv', _⟩
  ·rw [hv] at hv'; injection hv'
  ·rw [hv] at hv'; cases hv'
 obtain ⟨g, e, _, _, h3⟩ := h2 h0
 exact ⟨g, 0, e, fun k hk j hj => by rw [Nat.zero_add]; exact h3 k hk j hj⟩
theorem SrcX.flat {w : World} {g off n cap : Nat} {l : List (Nat × Nat)} (h : SrcX w (.slice (some ⟨g, off, none⟩) n cap) l) : ∀ j u, (flatX l)[j]? = some u → w.cell? ((⟨g, off, none⟩ : Addr).add j) = some u := by
 intro j u hu
 obtain ⟨ad, c, e, hc, h2⟩ := h
 cases e
 have hj : j < (flatX l).length := (List.getElem?_eq_some_iff.1 hu).1
 rw [flatX_length] at hj
 obtain ⟨g', off', e', h3⟩ := h2 (by omega)
 cases e'
 have hk : j / 2 < l.length := by omega
 have hm : j % 2 < 2 := Nat.mod_lt _ (by decide)
 have e1 : j / 2 * 2 + j % 2 = j := by omega
 have h4 := flatX_at l (j / 2) hk (j % 2) hm
 rw [e1] at h4
 have h5 := h3 (j / 2) hk (j % 2) hm
 rw [e1] at h5
 rw [Addr.add_lit, h5, ← h4]
 exact hu
theorem flatX_take (l : List (Nat × Nat)) (p : Nat) : (flatX l).take (p * 2) = flatX (l.take p) := by
 by_cases h : p ≤ l.length
 ·have e := flatX_append (l.take p) (l.drop p)
  rw [List.take_append_drop] at e
  rw [e]
  have hl : (flatX (l.take p)).length = p * 2 := by rw [flatX_length, List.length_take]; congr 1; omega
  rw [List.take_append_of_le_length (by omega), List.take_of_length_le (by omega)]
 ·rw [List.take_of_length_le (by rw [flatX_length]; omega), List.take_of_length_le (by omega)]
theorem flatX_drop (l : List (Nat × Nat)) (p : Nat) : (flatX l).drop (p * 2) = flatX (l.drop p) := by
 by_cases h : p ≤ l.length
 ·have e := flatX_append (l.take p) (l.drop p)
  rw [List.take_append_drop] at e
  rw [e]
  have hl : (flatX (l.take p)).length = p * 2 := by rw [flatX_length, List.length_take]; congr 1; omega
  rw [← hl, List.drop_left]
 ·rw [List.drop_eq_nil_of_le (by rw [flatX_length]; omega), List.drop_eq_nil_of_le (by omega)]; rfl
theorem RowX.some {w : World} {b : Nat} {v : Value} {l : List (Nat × Nat)} (h : RowX w b v l) (h0 : 0 < l.length) : ∃ g cap, v = .slice (.some ⟨g, 0, none⟩) l.length cap ∧ l.length ≤ cap ∧ b ≤ g ∧ g < w.heap.size := by
 obtain ⟨ad, cap, hv, hc, h2⟩ := h.form
 obtain ⟨g, rfl, hb, hg, _⟩ := h2 h0
 exact ⟨g, cap, hv, hc, hb, hg⟩
theorem RowX.over {w w' : World} {b g n cap : Nat} {l : List (Nat × Nat)} (h : RowX w b (.slice (.some ⟨g, 0, none⟩) n cap) l) (p : Nat) (k : List (Nat × Nat)) (hf : p + k.length ≤ n)
  (hw : ∀ cur, w.heap[g]? = .some (.cells cur 58 (0, 0)) → w'.heap[g]? = .some (.cells (cur.toList.take (p * 2) ++ flatX k ++ cur.toList.drop (p * 2 + (flatX k).length)).toArray 58 (0, 0))) :
  RowX w' b (.slice (.some ⟨g, 0, none⟩) n cap) (l.take p ++ k ++ l.drop (p + k.length)) := by
 have hn : l.length = n := by
  rcases h.2 with ⟨hv, _⟩ | ⟨g', cap', cur, hv, _⟩
  ·cases hv
  ·cases hv; rfl
 subst hn
 have hlen : (l.take p ++ k ++ l.drop (p + k.length)).length = l.length := by simp; omega
 rcases h.2 with ⟨hv, _⟩ | ⟨g', cap', cur, hv, hb, hg, hc, hm, hs, ht⟩
 ·cases hv
 ·cases hv
  refine ⟨by rw [hlen, flatX_length, hlen], .inr ⟨g, cap, _, by rw [hlen], hb, hw cur hg, by rw [hlen]; exact hc, hm, ?_, ?_⟩⟩
  ·rw [flatX_length]
   simp only [List.size_toArray, List.length_append, List.length_take, List.length_drop, Array.length_toList, flatX_length]
   omega
  ·rw [hlen]
   have e1 : cur.toList.take (p * 2) = flatX (l.take p) := by
    rw [← flatX_take, ← ht, List.take_take]; congr 1; omega
   have e2 : (cur.toList.drop (p * 2 + (flatX k).length)).take (l.length * 2 - (p * 2 + (flatX k).length)) = flatX (l.drop (p + k.length)) := by
    rw [← flatX_drop, ← ht, List.drop_take, flatX_length]
    rw [show p * 2 + k.length * 2 = (p + k.length) * 2 by omega]
   have l1 : (flatX (l.take p)).length = p * 2 := by rw [flatX_length, List.length_take]; omega
   rw [e1, flatX_append, flatX_append, ← e2]
   have l2 := flatX_length k
   rw [List.take_append, List.take_of_length_le (by rw [List.length_append, l1, l2]; omega)]
   congr 2
   rw [List.length_append, l1]
end Go.Proofs.YtgokmkholjfhbaaGreat
