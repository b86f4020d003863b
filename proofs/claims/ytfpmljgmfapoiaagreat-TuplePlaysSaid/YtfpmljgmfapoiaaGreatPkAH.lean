/-
  PkAH: NsU NsI SpSr ExPlC ExK2 ExPlU2, one behind the other (tools/pack.py).
-/
import Derived.Test.YtfpmljgmfapoiaaGreatPkAG
import Derived.Test.YtfpmljgmfapoiaaGreatPkAD
import Derived.Test.YtfpmljgmfapoiaaGreatPkAC
import Derived.Test.YtfpmljgmfapoiaaGreatProg
import Derived.Maps.AppendAt
import Derived.OwnWalk
import Derived.Deep.AppendLies
import Derived.Laws.CopyOwn
import Derived.Deep.DeepCutAuto
import Derived.RegionTactic
import Derived.BigRegion
import Derived.Lib.MinMax
import Derived.Test.YtfpmljgmfapoiaaGreatPkAA
import Derived.Test.YtfpmljgmfapoiaaGreatPkAB
/-
  Rows of spans and of prefixes. Written by tools/mkNsU.py, after the rows of rules.
-/
namespace Go.Proofs.YtfpmljgmfapoiaaGreat
open Go.RowKit
set_option linter.unusedVariables false
set_option linter.unusedSimpArgs false

theorem run_store_val {P : Program} (w : World) (B o : Nat) (ty t : TypeId) (val : Value) (cs new old : Array Value) (hc : val.cells = cs) (h : w.heap[B]? = some (.cells old t (0, 0))) (hl : o + cs.size ≤ old.size)
    (hn : old.toList.take o ++ cs.toList ++ old.toList.drop (o + cs.size) = new.toList) (hi : (P.info? ty).map (·.size) = some cs.size) (h1 : cs.toList.all (·.oneCell') = true) :
    (Instr.storeAt ty (.pointer (some ⟨B, o, none⟩)) val).run P w = .ok () (w.setRow B new) := by
  have := run_storeCells_at (P := P) B o t cs.toList 0 old w h (by simpa using hl) (fun v hv => List.all_eq_true.1 h1 v hv)
  rw [show o + 0 + cs.toList.length = o + cs.size by simp, show o + 0 = o from rfl, hn, Array.toArray_toList] at this
  cases hq : P.info? ty with
  | none => simp [hq] at hi
  | some i =>
    have hs : cs.size = i.size := by simp [hq] at hi; omega
    simp [Instr.storeAt, Instr.sureAddr, storeVar, sizeOf, typeInfo, hq, hc, hs, this]
theorem wp_store_val {P : Program} {op : Oper} {a : Act} {w : World} {K : Act → World → Prop} {Q : Exit → Act → World → Prop} (ty : TypeId) (x y : Operand) (ho : op.op = .store ty x y)
    (B o : Nat) (val : Value) (cs new : Array Value) (hx : a.eval x = .pointer (some ⟨B, o, none⟩)) (hy : a.eval y = val) (hc : val.cells = cs) (t : TypeId) (old : Array Value)
    (h : w.heap[B]? = some (.cells old t (0, 0))) (hl : o + cs.size ≤ old.size) (hn : old.toList.take o ++ cs.toList ++ old.toList.drop (o + cs.size) = new.toList)
    (hi : (P.info? ty).map (·.size) = some cs.size) (h1 : cs.toList.all (·.oneCell') = true)
    (hk : ∀ w', w'.heap[B]? = some (.cells new t (0, 0)) → Only B w w' → K (a.put op.dst undef) w') : op.wp P a w K Q := by
  have hr := run_store_val (P := P) w B o ty t val cs new old hc h hl hn hi h1
  unfold Oper.wp execOp
  simp only [ho, hx, hy, Sem.run_bind, hr, Result.andThen_ok]
  exact hk _ (setRow_heap w B old new t _ h) (only_setRow w B new)
theorem wpList_store_val {P : Program} {ops : Array Oper} {rest : List Oper} {op : Oper} {a : Act} {w : World} {Q : Exit → Act → World → Prop} (hgd : op.guard = none) (ty : TypeId) (x y : Operand) (ho : op.op = .store ty x y)
    (B o : Nat) (val : Value) (cs new : Array Value) (hx : a.eval x = .pointer (some ⟨B, o, none⟩)) (hy : a.eval y = val) (hc : val.cells = cs) (t : TypeId) (old : Array Value)
    (h : w.heap[B]? = some (.cells old t (0, 0))) (hl : o + cs.size ≤ old.size) (hn : old.toList.take o ++ cs.toList ++ old.toList.drop (o + cs.size) = new.toList)
    (hi : (P.info? ty).map (·.size) = some cs.size) (h1 : cs.toList.all (·.oneCell') = true)
    (hk : ∀ w', w'.heap[B]? = some (.cells new t (0, 0)) → Only B w w' → wpList P ops Q rest (a.put op.dst undef) w') : wpList P ops Q (op :: rest) a w :=
  wpList_plain hgd fun K hK => wp_store_val ty x y ho B o val cs new hx hy hc t old h hl hn hi h1 fun w' a1 a2 => hK _ _ (hk w' a1 a2)
def encS (p : (Nat × Nat)) : List Value := [.int .u16 p.1, .int .u16 p.2]
def flatS : List ((Nat × Nat)) → List Value
  | [] => []
  | p :: l => encS p ++ flatS l
theorem flatS_length (l : List ((Nat × Nat))) : (flatS l).length = l.length * 2 := by
  induction l with
  | nil => rfl
  | cons p l ih => simp only [flatS, encS, List.length_append, List.length_cons, List.length_nil, ih]; omega
theorem flatS_append (l k : List ((Nat × Nat))) : flatS (l ++ k) = flatS l ++ flatS k := by
  induction l with
  | nil => rfl
  | cons p l ih => simp only [flatS, List.cons_append, ih, List.append_assoc]
theorem flatS_at : ∀ (l : List ((Nat × Nat))) (i : Nat) (h : i < l.length) (j : Nat) (hj : j < 2), (flatS l)[i * 2 + j]? = (encS (l[i]'h))[j]?
  | p :: l, 0, _, j, hj => by
    rw [Nat.zero_mul, Nat.zero_add]
    exact List.getElem?_append_left (by simp [encS]; omega)
  | p :: l, i + 1, h, j, hj => by
    have := flatS_at l i (by simpa using h) j hj
    show (encS p ++ flatS l)[(i + 1) * 2 + j]? = _
    rw [List.getElem?_append_right (by simp [encS]; omega), show (i + 1) * 2 + j - (encS p).length = i * 2 + j by simp [encS]; omega]
    exact this
/-- The row v of w holds the list. -/
def RowS (w : World) (base : Nat) (v : Value) (l : List ((Nat × Nat))) : Prop := w.ownsRow base 48 2 v l.length (flatS l)
theorem RowS.base {w : World} {b b' : Nat} {v : Value} {l : List ((Nat × Nat))} (h : RowS w b v l) (hb : b' ≤ b) : RowS w b' v l := by
  refine ⟨h.1, ?_⟩
  rcases h.2 with h2 | ⟨g, cap, cur, hv, hg, r⟩
  · exact .inl h2
  · exact .inr ⟨g, cap, cur, hv, by omega, r⟩
theorem RowS.on {w w1 : World} {b : Nat} {v : Value} {l : List ((Nat × Nat))} (h : RowS w b v l) (hb : Below w.heap.size w w1) : RowS w1 b v l := by
  refine ⟨h.1, ?_⟩
  rcases h.2 with h2 | ⟨g, cap, cur, hv, hg, hh, r⟩
  · exact .inl h2
  · exact .inr ⟨g, cap, cur, hv, hg, by rw [hb.block g (Array.getElem?_eq_some_iff.1 hh).1]; exact hh, r⟩
theorem RowS.alloc {w : World} {b : Nat} {v : Value} {l : List ((Nat × Nat))} (h : RowS w b v l) (o : Obj) : RowS (w.alloc o) b v l := World.ownsRow.alloc h o
theorem RowS.drew {w : World} {b : Nat} {v : Value} {l : List ((Nat × Nat))} (h : RowS w b v l) : RowS w.drew b v l := h
theorem RowS.nil (w : World) (b : Nat) : RowS w b (.slice none 0 0) [] := World.ownsRow_nil w b _ _
theorem RowS.one (w : World) (b : Nat) (p : (Nat × Nat)) (hb : b ≤ w.heap.size) : RowS (w.alloc (.cells #[.int .u16 p.1, .int .u16 p.2] 48)) b (.slice (some ⟨w.heap.size, 0, none⟩) 1 1) [p] :=
  World.ownsRow_lit w #[.int .u16 p.1, .int .u16 p.2] 1 hb (by simp [maxLen]) rfl
theorem RowS.lt {w : World} {b : Nat} {v : Value} {l : List ((Nat × Nat))} (h : RowS w b v l) : ∀ k, v.ownBlock = some k → b ≤ k ∧ k < w.heap.size := World.ownsRow.lt h
theorem RowS.put {w : World} {b : Nat} {v : Value} {l : List ((Nat × Nat))} (h : RowS w b v l) {g i : Nat} (hg : some g ≠ v.ownBlock) (u : Value) : RowS (w.setCell ⟨g, i, none⟩ u) b v l := by
  refine ⟨h.1, ?_⟩
  rcases h.2 with h2 | ⟨g', cap, cur, hv, hb, hh, r⟩
  · exact .inl h2
  · exact .inr ⟨g', cap, cur, hv, hb, by rw [Below.heap_setCell _ _ _ _ (by intro e; apply hg; rw [hv]; simp [Value.ownBlock, e])]; exact hh, r⟩
/-- What a row looks like. -/
theorem RowS.form {w : World} {b : Nat} {v : Value} {l : List ((Nat × Nat))} (h : RowS w b v l) :
    ∃ (ad : Option Addr) (cap : Nat), v = .slice ad l.length cap ∧ l.length ≤ cap ∧ (0 < l.length → ∃ g, ad = some ⟨g, 0, none⟩ ∧ b ≤ g ∧ g < w.heap.size ∧ ∀ k (hk : k < l.length) j, j < 2 → w.cell? ⟨g, k * 2 + j, none⟩ = (encS (l[k]'hk))[j]?) := by
  rcases h.2 with ⟨hv, hn⟩ | ⟨g, cap, cur, hv, hb, hg, hcap, r⟩
  · exact ⟨none, 0, by rw [hv, hn], by omega, fun h0 => by omega⟩
  · subst hv
    refine ⟨_, cap, rfl, hcap, fun _ => ⟨g, rfl, hb, (Array.getElem?_eq_some_iff.1 hg).1, fun k hk j hj => ?_⟩⟩
    have h' : w.ownsRow b 48 2 (.slice (some ⟨g, 0, none⟩) l.length cap) l.length (flatS l) := h
    rw [h'.cellAt (k * 2 + j) (by omega), flatS_at l k hk j hj]
theorem RowS.frozen {w : World} {b g cap n : Nat} {l : List ((Nat × Nat))} (h : RowS w b (.slice (some ⟨g, 0, none⟩) n cap) l) (j : Nat) : w.frozen? ⟨g, j, none⟩ = false := by
  rcases h.2 with ⟨hv, _⟩ | ⟨g', cap', cur, hv, hb, hg, r⟩
  · cases hv
  · cases hv; simp [World.frozen?, hg]

/-- The slice v of w reads as the list of rules. -/
def SrcS (w : World) (v : Value) (l : List (Nat × Nat)) : Prop :=
  ∃ (ad : Option Addr) (cap : Nat), v = .slice ad l.length cap ∧ (l.length ≤ cap ∧ (ad = none → cap = 0)) ∧ (0 < l.length → ∃ g off, ad = some ⟨g, off, none⟩ ∧ ∀ k (hk : k < l.length) j, j < 2 → w.cell? ⟨g, off + (k * 2 + j), none⟩ = (encS (l[k]'hk))[j]?)
theorem encS_some (R : (Nat × Nat)) {j : Nat} (h : j < 2) : ∃ v, (encS R)[j]? = some v := ⟨(encS R)[j]'(by simp [encS]; omega), List.getElem?_eq_getElem _⟩
theorem SrcS.keep {w w1 : World} {v : Value} {l : List (Nat × Nat)} (h : SrcS w v l) (hb : Below w.heap.size w w1) : SrcS w1 v l := by
  obtain ⟨ad, cap, rfl, hc, h2⟩ := h
  refine ⟨ad, cap, rfl, hc, fun h0 => ?_⟩
  obtain ⟨g, off, rfl, h3⟩ := h2 h0
  exact ⟨g, off, rfl, fun k hk j hj => by
    have := h3 k hk j hj
    obtain ⟨u, hu⟩ := encS_some (l[k]'hk) hj
    rw [hb.cell (World.block_lt_of_cell? w _ (this.trans hu))]; exact this⟩
/-- A source whose block stays. -/
theorem SrcS.stay {w w1 : World} {v : Value} {l : List (Nat × Nat)} (h : SrcS w v l) (hb : ∀ k, v.ownBlock = some k → k < w.heap.size → w1.heap[k]? = w.heap[k]?) : SrcS w1 v l := by
  obtain ⟨ad, cap, rfl, hc, h2⟩ := h
  refine ⟨ad, cap, rfl, hc, fun h0 => ?_⟩
  obtain ⟨g, off, rfl, h3⟩ := h2 h0
  exact ⟨g, off, rfl, fun k hk j hj => by
    have := h3 k hk j hj
    obtain ⟨u, hu⟩ := encS_some (l[k]'hk) hj
    have hlt := World.block_lt_of_cell? w _ (this.trans hu)
    rw [World.cell?_of_block (w := w) (a := ⟨g, off + (k * 2 + j), none⟩) (hb g rfl hlt)]; exact this⟩
theorem RowS.src {w : World} {b : Nat} {v : Value} {l : List (Nat × Nat)} (h : RowS w b v l) : SrcS w v l := by
  obtain ⟨ad, cap, hv, hc, h2⟩ := h.form
  refine ⟨ad, cap, hv, ⟨hc, fun e => ?_⟩, fun h0 => ?_⟩
  · subst e
    rcases h.2 with ⟨hv', _⟩ | ⟨g, cap', cur, hv', _⟩
    · rw [hv] at hv'; injection hv'
    · rw [hv] at hv'; cases hv'
  obtain ⟨g, e, _, _, h3⟩ := h2 h0
  exact ⟨g, 0, e, fun k hk j hj => by rw [Nat.zero_add]; exact h3 k hk j hj⟩
theorem SrcS.flat {w : World} {g off n cap : Nat} {l : List (Nat × Nat)} (h : SrcS w (.slice (some ⟨g, off, none⟩) n cap) l) : ∀ j u, (flatS l)[j]? = some u → w.cell? ((⟨g, off, none⟩ : Addr).add j) = some u := by
  intro j u hu
  obtain ⟨ad, c, e, hc, h2⟩ := h
  cases e
  have hj : j < (flatS l).length := (List.getElem?_eq_some_iff.1 hu).1
  rw [flatS_length] at hj
  obtain ⟨g', off', e', h3⟩ := h2 (by omega)
  cases e'
  have hk : j / 2 < l.length := by omega
  have hm : j % 2 < 2 := Nat.mod_lt _ (by decide)
  have e1 : j / 2 * 2 + j % 2 = j := by omega
  have h4 := flatS_at l (j / 2) hk (j % 2) hm
  rw [e1] at h4
  have h5 := h3 (j / 2) hk (j % 2) hm
  rw [e1] at h5
  rw [Addr.add_lit, h5, ← h4]
  exact hu
theorem flatS_take (l : List (Nat × Nat)) (p : Nat) : (flatS l).take (p * 2) = flatS (l.take p) := by
  by_cases h : p ≤ l.length
  · have e := flatS_append (l.take p) (l.drop p)
    rw [List.take_append_drop] at e
    rw [e]
    have hl : (flatS (l.take p)).length = p * 2 := by rw [flatS_length, List.length_take]; congr 1; omega
    rw [List.take_append_of_le_length (by omega), List.take_of_length_le (by omega)]
  · rw [List.take_of_length_le (by rw [flatS_length]; omega), List.take_of_length_le (by omega)]
theorem flatS_drop (l : List (Nat × Nat)) (p : Nat) : (flatS l).drop (p * 2) = flatS (l.drop p) := by
  by_cases h : p ≤ l.length
  · have e := flatS_append (l.take p) (l.drop p)
    rw [List.take_append_drop] at e
    rw [e]
    have hl : (flatS (l.take p)).length = p * 2 := by rw [flatS_length, List.length_take]; congr 1; omega
    rw [← hl, List.drop_left]
  · rw [List.drop_eq_nil_of_le (by rw [flatS_length]; omega), List.drop_eq_nil_of_le (by omega)]; rfl
/-- A row with something in it. -/
theorem RowS.some {w : World} {b : Nat} {v : Value} {l : List (Nat × Nat)} (h : RowS w b v l) (h0 : 0 < l.length) : ∃ g cap, v = .slice (.some ⟨g, 0, none⟩) l.length cap ∧ l.length ≤ cap ∧ b ≤ g ∧ g < w.heap.size := by
  obtain ⟨ad, cap, hv, hc, h2⟩ := h.form
  obtain ⟨g, rfl, hb, hg, _⟩ := h2 h0
  exact ⟨g, cap, hv, hc, hb, hg⟩
/-- Rules laid over a row from a place on. -/
theorem RowS.over {w w' : World} {b g n cap : Nat} {l : List (Nat × Nat)} (h : RowS w b (.slice (.some ⟨g, 0, none⟩) n cap) l) (p : Nat) (k : List (Nat × Nat)) (hf : p + k.length ≤ n)
    (hw : ∀ cur, w.heap[g]? = .some (.cells cur 48 (0, 0)) → w'.heap[g]? = .some (.cells (cur.toList.take (p * 2) ++ flatS k ++ cur.toList.drop (p * 2 + (flatS k).length)).toArray 48 (0, 0))) :
    RowS w' b (.slice (.some ⟨g, 0, none⟩) n cap) (l.take p ++ k ++ l.drop (p + k.length)) := by
  have hn : l.length = n := by
    rcases h.2 with ⟨hv, _⟩ | ⟨g', cap', cur, hv, _⟩
    · cases hv
    · cases hv; rfl
  subst hn
  have hlen : (l.take p ++ k ++ l.drop (p + k.length)).length = l.length := by simp; omega
  rcases h.2 with ⟨hv, _⟩ | ⟨g', cap', cur, hv, hb, hg, hc, hm, hs, ht⟩
  · cases hv
  · cases hv
    refine ⟨by rw [hlen, flatS_length, hlen], .inr ⟨g, cap, _, by rw [hlen], hb, hw cur hg, by rw [hlen]; exact hc, hm, ?_, ?_⟩⟩
    · rw [flatS_length]
      simp only [List.size_toArray, List.length_append, List.length_take, List.length_drop, Array.length_toList, flatS_length]
      omega
    · rw [hlen]
      have e1 : cur.toList.take (p * 2) = flatS (l.take p) := by
        rw [← flatS_take, ← ht, List.take_take]; congr 1; omega
      have e2 : (cur.toList.drop (p * 2 + (flatS k).length)).take (l.length * 2 - (p * 2 + (flatS k).length)) = flatS (l.drop (p + k.length)) := by
        rw [← flatS_drop, ← ht, List.drop_take, flatS_length]
        rw [show p * 2 + k.length * 2 = (p + k.length) * 2 by omega]
      have l1 : (flatS (l.take p)).length = p * 2 := by rw [flatS_length, List.length_take]; omega
      rw [e1, flatS_append, flatS_append, ← e2]
      have l2 := flatS_length k
      rw [List.take_append, List.take_of_length_le (by rw [List.length_append, l1, l2]; omega)]
      congr 2
      rw [List.length_append, l1]
def encX (p : (Nat × Nat)) : List Value := [.int .u32 p.1, .int .i64 p.2]
def flatX : List ((Nat × Nat)) → List Value
  | [] => []
  | p :: l => encX p ++ flatX l
theorem flatX_length (l : List ((Nat × Nat))) : (flatX l).length = l.length * 2 := by
  induction l with
  | nil => rfl
  | cons p l ih => simp only [flatX, encX, List.length_append, List.length_cons, List.length_nil, ih]; omega
theorem flatX_append (l k : List ((Nat × Nat))) : flatX (l ++ k) = flatX l ++ flatX k := by
  induction l with
  | nil => rfl
  | cons p l ih => simp only [flatX, List.cons_append, ih, List.append_assoc]
theorem flatX_at : ∀ (l : List ((Nat × Nat))) (i : Nat) (h : i < l.length) (j : Nat) (hj : j < 2), (flatX l)[i * 2 + j]? = (encX (l[i]'h))[j]?
  | p :: l, 0, _, j, hj => by
    rw [Nat.zero_mul, Nat.zero_add]
    exact List.getElem?_append_left (by simp [encX]; omega)
  | p :: l, i + 1, h, j, hj => by
    have := flatX_at l i (by simpa using h) j hj
    show (encX p ++ flatX l)[(i + 1) * 2 + j]? = _
    rw [List.getElem?_append_right (by simp [encX]; omega), show (i + 1) * 2 + j - (encX p).length = i * 2 + j by simp [encX]; omega]
    exact this
/-- The row v of w holds the list. -/
def RowX (w : World) (base : Nat) (v : Value) (l : List ((Nat × Nat))) : Prop := w.ownsRow base 45 2 v l.length (flatX l)
theorem RowX.base {w : World} {b b' : Nat} {v : Value} {l : List ((Nat × Nat))} (h : RowX w b v l) (hb : b' ≤ b) : RowX w b' v l := by
  refine ⟨h.1, ?_⟩
  rcases h.2 with h2 | ⟨g, cap, cur, hv, hg, r⟩
  · exact .inl h2
  · exact .inr ⟨g, cap, cur, hv, by omega, r⟩
theorem RowX.on {w w1 : World} {b : Nat} {v : Value} {l : List ((Nat × Nat))} (h : RowX w b v l) (hb : Below w.heap.size w w1) : RowX w1 b v l := by
  refine ⟨h.1, ?_⟩
  rcases h.2 with h2 | ⟨g, cap, cur, hv, hg, hh, r⟩
  · exact .inl h2
  · exact .inr ⟨g, cap, cur, hv, hg, by rw [hb.block g (Array.getElem?_eq_some_iff.1 hh).1]; exact hh, r⟩
theorem RowX.alloc {w : World} {b : Nat} {v : Value} {l : List ((Nat × Nat))} (h : RowX w b v l) (o : Obj) : RowX (w.alloc o) b v l := World.ownsRow.alloc h o
theorem RowX.drew {w : World} {b : Nat} {v : Value} {l : List ((Nat × Nat))} (h : RowX w b v l) : RowX w.drew b v l := h
theorem RowX.nil (w : World) (b : Nat) : RowX w b (.slice none 0 0) [] := World.ownsRow_nil w b _ _
theorem RowX.one (w : World) (b : Nat) (p : (Nat × Nat)) (hb : b ≤ w.heap.size) : RowX (w.alloc (.cells #[.int .u32 p.1, .int .i64 p.2] 45)) b (.slice (some ⟨w.heap.size, 0, none⟩) 1 1) [p] :=
  World.ownsRow_lit w #[.int .u32 p.1, .int .i64 p.2] 1 hb (by simp [maxLen]) rfl
theorem RowX.lt {w : World} {b : Nat} {v : Value} {l : List ((Nat × Nat))} (h : RowX w b v l) : ∀ k, v.ownBlock = some k → b ≤ k ∧ k < w.heap.size := World.ownsRow.lt h
theorem RowX.put {w : World} {b : Nat} {v : Value} {l : List ((Nat × Nat))} (h : RowX w b v l) {g i : Nat} (hg : some g ≠ v.ownBlock) (u : Value) : RowX (w.setCell ⟨g, i, none⟩ u) b v l := by
  refine ⟨h.1, ?_⟩
  rcases h.2 with h2 | ⟨g', cap, cur, hv, hb, hh, r⟩
  · exact .inl h2
  · exact .inr ⟨g', cap, cur, hv, hb, by rw [Below.heap_setCell _ _ _ _ (by intro e; apply hg; rw [hv]; simp [Value.ownBlock, e])]; exact hh, r⟩
/-- What a row looks like. -/
theorem RowX.form {w : World} {b : Nat} {v : Value} {l : List ((Nat × Nat))} (h : RowX w b v l) :
    ∃ (ad : Option Addr) (cap : Nat), v = .slice ad l.length cap ∧ l.length ≤ cap ∧ (0 < l.length → ∃ g, ad = some ⟨g, 0, none⟩ ∧ b ≤ g ∧ g < w.heap.size ∧ ∀ k (hk : k < l.length) j, j < 2 → w.cell? ⟨g, k * 2 + j, none⟩ = (encX (l[k]'hk))[j]?) := by
  rcases h.2 with ⟨hv, hn⟩ | ⟨g, cap, cur, hv, hb, hg, hcap, r⟩
  · exact ⟨none, 0, by rw [hv, hn], by omega, fun h0 => by omega⟩
  · subst hv
    refine ⟨_, cap, rfl, hcap, fun _ => ⟨g, rfl, hb, (Array.getElem?_eq_some_iff.1 hg).1, fun k hk j hj => ?_⟩⟩
    have h' : w.ownsRow b 45 2 (.slice (some ⟨g, 0, none⟩) l.length cap) l.length (flatX l) := h
    rw [h'.cellAt (k * 2 + j) (by omega), flatX_at l k hk j hj]
theorem RowX.frozen {w : World} {b g cap n : Nat} {l : List ((Nat × Nat))} (h : RowX w b (.slice (some ⟨g, 0, none⟩) n cap) l) (j : Nat) : w.frozen? ⟨g, j, none⟩ = false := by
  rcases h.2 with ⟨hv, _⟩ | ⟨g', cap', cur, hv, hb, hg, r⟩
  · cases hv
  · cases hv; simp [World.frozen?, hg]

/-- The slice v of w reads as the list of rules. -/
def SrcX (w : World) (v : Value) (l : List (Nat × Nat)) : Prop :=
  ∃ (ad : Option Addr) (cap : Nat), v = .slice ad l.length cap ∧ (l.length ≤ cap ∧ (ad = none → cap = 0)) ∧ (0 < l.length → ∃ g off, ad = some ⟨g, off, none⟩ ∧ ∀ k (hk : k < l.length) j, j < 2 → w.cell? ⟨g, off + (k * 2 + j), none⟩ = (encX (l[k]'hk))[j]?)
theorem encX_some (R : (Nat × Nat)) {j : Nat} (h : j < 2) : ∃ v, (encX R)[j]? = some v := ⟨(encX R)[j]'(by simp [encX]; omega), List.getElem?_eq_getElem _⟩
theorem SrcX.keep {w w1 : World} {v : Value} {l : List (Nat × Nat)} (h : SrcX w v l) (hb : Below w.heap.size w w1) : SrcX w1 v l := by
  obtain ⟨ad, cap, rfl, hc, h2⟩ := h
  refine ⟨ad, cap, rfl, hc, fun h0 => ?_⟩
  obtain ⟨g, off, rfl, h3⟩ := h2 h0
  exact ⟨g, off, rfl, fun k hk j hj => by
    have := h3 k hk j hj
    obtain ⟨u, hu⟩ := encX_some (l[k]'hk) hj
    rw [hb.cell (World.block_lt_of_cell? w _ (this.trans hu))]; exact this⟩
/-- A source whose block stays. -/
theorem SrcX.stay {w w1 : World} {v : Value} {l : List (Nat × Nat)} (h : SrcX w v l) (hb : ∀ k, v.ownBlock = some k → k < w.heap.size → w1.heap[k]? = w.heap[k]?) : SrcX w1 v l := by
  obtain ⟨ad, cap, rfl, hc, h2⟩ := h
  refine ⟨ad, cap, rfl, hc, fun h0 => ?_⟩
  obtain ⟨g, off, rfl, h3⟩ := h2 h0
  exact ⟨g, off, rfl, fun k hk j hj => by
    have := h3 k hk j hj
    obtain ⟨u, hu⟩ := encX_some (l[k]'hk) hj
    have hlt := World.block_lt_of_cell? w _ (this.trans hu)
    rw [World.cell?_of_block (w := w) (a := ⟨g, off + (k * 2 + j), none⟩) (hb g rfl hlt)]; exact this⟩
theorem RowX.src {w : World} {b : Nat} {v : Value} {l : List (Nat × Nat)} (h : RowX w b v l) : SrcX w v l := by
  obtain ⟨ad, cap, hv, hc, h2⟩ := h.form
  refine ⟨ad, cap, hv, ⟨hc, fun e => ?_⟩, fun h0 => ?_⟩
  · subst e
    rcases h.2 with ⟨hv', _⟩ | ⟨g, cap', cur, hv', _⟩
    · rw [hv] at hv'; injection hv'
    · rw [hv] at hv'; cases hv'
  obtain ⟨g, e, _, _, h3⟩ := h2 h0
  exact ⟨g, 0, e, fun k hk j hj => by rw [Nat.zero_add]; exact h3 k hk j hj⟩
theorem SrcX.flat {w : World} {g off n cap : Nat} {l : List (Nat × Nat)} (h : SrcX w (.slice (some ⟨g, off, none⟩) n cap) l) : ∀ j u, (flatX l)[j]? = some u → w.cell? ((⟨g, off, none⟩ : Addr).add j) = some u := by
  intro j u hu
  obtain ⟨ad, c, e, hc, h2⟩ := h
  cases e
  have hj : j < (flatX l).length := (List.getElem?_eq_some_iff.1 hu).1
  rw [flatX_length] at hj
  obtain ⟨g', off', e', h3⟩ := h2 (by omega)
  cases e'
  have hk : j / 2 < l.length := by omega
  have hm : j % 2 < 2 := Nat.mod_lt _ (by decide)
  have e1 : j / 2 * 2 + j % 2 = j := by omega
  have h4 := flatX_at l (j / 2) hk (j % 2) hm
  rw [e1] at h4
  have h5 := h3 (j / 2) hk (j % 2) hm
  rw [e1] at h5
  rw [Addr.add_lit, h5, ← h4]
  exact hu
theorem flatX_take (l : List (Nat × Nat)) (p : Nat) : (flatX l).take (p * 2) = flatX (l.take p) := by
  by_cases h : p ≤ l.length
  · have e := flatX_append (l.take p) (l.drop p)
    rw [List.take_append_drop] at e
    rw [e]
    have hl : (flatX (l.take p)).length = p * 2 := by rw [flatX_length, List.length_take]; congr 1; omega
    rw [List.take_append_of_le_length (by omega), List.take_of_length_le (by omega)]
  · rw [List.take_of_length_le (by rw [flatX_length]; omega), List.take_of_length_le (by omega)]
theorem flatX_drop (l : List (Nat × Nat)) (p : Nat) : (flatX l).drop (p * 2) = flatX (l.drop p) := by
  by_cases h : p ≤ l.length
  · have e := flatX_append (l.take p) (l.drop p)
    rw [List.take_append_drop] at e
    rw [e]
    have hl : (flatX (l.take p)).length = p * 2 := by rw [flatX_length, List.length_take]; congr 1; omega
    rw [← hl, List.drop_left]
  · rw [List.drop_eq_nil_of_le (by rw [flatX_length]; omega), List.drop_eq_nil_of_le (by omega)]; rfl
/-- A row with something in it. -/
theorem RowX.some {w : World} {b : Nat} {v : Value} {l : List (Nat × Nat)} (h : RowX w b v l) (h0 : 0 < l.length) : ∃ g cap, v = .slice (.some ⟨g, 0, none⟩) l.length cap ∧ l.length ≤ cap ∧ b ≤ g ∧ g < w.heap.size := by
  obtain ⟨ad, cap, hv, hc, h2⟩ := h.form
  obtain ⟨g, rfl, hb, hg, _⟩ := h2 h0
  exact ⟨g, cap, hv, hc, hb, hg⟩
/-- Rules laid over a row from a place on. -/
theorem RowX.over {w w' : World} {b g n cap : Nat} {l : List (Nat × Nat)} (h : RowX w b (.slice (.some ⟨g, 0, none⟩) n cap) l) (p : Nat) (k : List (Nat × Nat)) (hf : p + k.length ≤ n)
    (hw : ∀ cur, w.heap[g]? = .some (.cells cur 45 (0, 0)) → w'.heap[g]? = .some (.cells (cur.toList.take (p * 2) ++ flatX k ++ cur.toList.drop (p * 2 + (flatX k).length)).toArray 45 (0, 0))) :
    RowX w' b (.slice (.some ⟨g, 0, none⟩) n cap) (l.take p ++ k ++ l.drop (p + k.length)) := by
  have hn : l.length = n := by
    rcases h.2 with ⟨hv, _⟩ | ⟨g', cap', cur, hv, _⟩
    · cases hv
    · cases hv; rfl
  subst hn
  have hlen : (l.take p ++ k ++ l.drop (p + k.length)).length = l.length := by simp; omega
  rcases h.2 with ⟨hv, _⟩ | ⟨g', cap', cur, hv, hb, hg, hc, hm, hs, ht⟩
  · cases hv
  · cases hv
    refine ⟨by rw [hlen, flatX_length, hlen], .inr ⟨g, cap, _, by rw [hlen], hb, hw cur hg, by rw [hlen]; exact hc, hm, ?_, ?_⟩⟩
    · rw [flatX_length]
      simp only [List.size_toArray, List.length_append, List.length_take, List.length_drop, Array.length_toList, flatX_length]
      omega
    · rw [hlen]
      have e1 : cur.toList.take (p * 2) = flatX (l.take p) := by
        rw [← flatX_take, ← ht, List.take_take]; congr 1; omega
      have e2 : (cur.toList.drop (p * 2 + (flatX k).length)).take (l.length * 2 - (p * 2 + (flatX k).length)) = flatX (l.drop (p + k.length)) := by
        rw [← flatX_drop, ← ht, List.drop_take, flatX_length]
        rw [show p * 2 + k.length * 2 = (p + k.length) * 2 by omega]
      have l1 : (flatX (l.take p)).length = p * 2 := by rw [flatX_length, List.length_take]; omega
      rw [e1, flatX_append, flatX_append, ← e2]
      have l2 := flatX_length k
      rw [List.take_append, List.take_of_length_le (by rw [List.length_append, l1, l2]; omega)]
      congr 2
      rw [List.length_append, l1]
end Go.Proofs.YtfpmljgmfapoiaaGreat
/-
  Rows of numbers; nest's count, and the shelf's least and put; comparing rows of numbers.
-/
namespace Go.Proofs.YtfpmljgmfapoiaaGreat
open Go.RowKit
set_option linter.unusedVariables false
set_option linter.unusedSimpArgs false

def eI (l : List Int) : List Value := l.map (Value.int .i64)
theorem eI_at {l : List Int} {k : Nat} (h : k < l.length) : (eI l)[k]? = some (.int .i64 l[k]) := by simp [eI, h]
theorem eI_app (l k : List Int) : eI (l ++ k) = eI l ++ eI k := by simp [eI]
theorem eI_one (l : List Int) : ∀ u ∈ eI l, u.oneCell' = true := by
  intro u hu
  obtain ⟨x, _, rfl⟩ := List.mem_map.1 hu
  rfl
theorem eI_set (l : List Int) (j : Nat) (x : Int) : (eI l).set j (.int .i64 x) = eI (l.set j x) := by simp [eI, List.map_set]
theorem infoI : (Tryz.prog.info? 3).map (fun i => (i.zero, i.size, i.bytes)) = some (some (.int .i64 0), 1, 8) := by kernel_rfl
/-- The row v of w holds the numbers. -/
def RowI (w : World) (b : Nat) (v : Value) (l : List Int) : Prop := w.ownsRow b 3 1 v l.length (eI l)
/-- The slice v of w reads as the numbers. -/
def SrcI (w : World) (v : Value) (l : List Int) : Prop :=
  ∃ (ad : Option Addr) (cap : Nat), v = .slice ad l.length cap ∧ (0 < l.length → ∃ g off, ad = some ⟨g, off, none⟩ ∧ ∀ k (hk : k < l.length), w.cell? ⟨g, off + k, none⟩ = some (.int .i64 (l[k]'hk)))
theorem RowI.on {w w1 : World} {b : Nat} {v : Value} {l : List Int} (h : RowI w b v l) (hb : Below w.heap.size w w1) : RowI w1 b v l := by
  refine ⟨h.1, ?_⟩
  rcases h.2 with h2 | ⟨g, cap, cur, hv, hg, hh, r⟩
  · exact .inl h2
  · exact .inr ⟨g, cap, cur, hv, hg, by rw [hb.block g (Array.getElem?_eq_some_iff.1 hh).1]; exact hh, r⟩
theorem RowI.base {w : World} {b b' : Nat} {v : Value} {l : List Int} (h : RowI w b v l) (hb : b' ≤ b) : RowI w b' v l := by
  refine ⟨h.1, ?_⟩
  rcases h.2 with h2 | ⟨g, cap, cur, hv, hg, r⟩
  · exact .inl h2
  · exact .inr ⟨g, cap, cur, hv, by omega, r⟩
theorem RowI.kept {w w' : World} {b : Nat} {v : Value} {l : List Int} {row : Option Nat} (h : RowI w b v l) (hg : w.grownBy w' row) (hne : v.ownBlock = none ∨ v.ownBlock ≠ row) : RowI w' b v l := World.ownsRow.kept h hg hne
theorem RowI.nil (w : World) (b : Nat) : RowI w b (.slice none 0 0) [] := World.ownsRow_nil w b _ _
theorem RowI.lt {w : World} {b : Nat} {v : Value} {l : List Int} (h : RowI w b v l) : ∀ k, v.ownBlock = some k → b ≤ k ∧ k < w.heap.size := World.ownsRow.lt h
theorem RowI.form {w : World} {b : Nat} {v : Value} {l : List Int} (h : RowI w b v l) : ∃ (ad : Option Addr) (cap : Nat), v = .slice ad l.length cap ∧
    (0 < l.length → ∃ g, ad = some ⟨g, 0, none⟩ ∧ b ≤ g ∧ g < w.heap.size ∧ ∀ k (hk : k < l.length), w.cell? ⟨g, k, none⟩ = some (.int .i64 (l[k]'hk)) ∧ w.frozen? ⟨g, k, none⟩ = false) := by
  rcases h.2 with ⟨hv, hn⟩ | ⟨g, cap, cur, hv, hb, hg, r⟩
  · exact ⟨none, 0, by rw [hv, hn], fun h0 => by omega⟩
  · subst hv
    refine ⟨_, cap, rfl, fun _ => ⟨g, rfl, hb, blk_lt hg, fun k hk => ⟨?_, World.ownsRow.frozenAt h k⟩⟩⟩
    rw [World.ownsRow.cellAt h k (by omega), eI_at hk]
theorem RowI.src {w : World} {b : Nat} {v : Value} {l : List Int} (h : RowI w b v l) : SrcI w v l := by
  obtain ⟨ad, cap, hv, h2⟩ := h.form
  refine ⟨ad, cap, hv, fun h0 => ?_⟩
  obtain ⟨g, e, _, _, h3⟩ := h2 h0
  exact ⟨g, 0, e, fun k hk => by rw [Nat.zero_add]; exact (h3 k hk).1⟩
theorem RowI.cell {w : World} {b g n cap : Nat} {l : List Int} (h : RowI w b (.slice (some ⟨g, 0, none⟩) n cap) l) {k : Nat} (hk : k < l.length) : w.cell? ⟨g, k, none⟩ = some (.int .i64 (l[k]'hk)) ∧ w.frozen? ⟨g, k, none⟩ = false := by
  obtain ⟨ad, c, e, h2⟩ := h.form
  cases e
  obtain ⟨g', e', _, _, h3⟩ := h2 (by omega)
  cases e'
  exact h3 k hk
theorem RowI.set {w : World} {b g n cap : Nat} {l : List Int} (h : RowI w b (.slice (some ⟨g, 0, none⟩) n cap) l) (j : Nat) (x : Int) : RowI (w.setCell ⟨g, j, none⟩ (.int .i64 x)) b (.slice (some ⟨g, 0, none⟩) n cap) (l.set j x) ∧ w.grownBy (w.setCell ⟨g, j, none⟩ (.int .i64 x)) (some g) := by
  have hn : n = l.length := by obtain ⟨ad, c, e, _⟩ := h.form; injection e
  subst hn
  obtain ⟨a, b⟩ := World.ownsRow.stored h j (.int .i64 x)
  rw [eI_set] at a
  exact ⟨by unfold RowI; simpa using a, b⟩
theorem SrcI.keep {w w1 : World} {v : Value} {l : List Int} (h : SrcI w v l) (hb : Below w.heap.size w w1) : SrcI w1 v l := by
  obtain ⟨ad, cap, rfl, h2⟩ := h
  refine ⟨ad, cap, rfl, fun h0 => ?_⟩
  obtain ⟨g, off, rfl, h3⟩ := h2 h0
  exact ⟨g, off, rfl, fun k hk => cell_on1 hb (h3 k hk)⟩
theorem SrcI.at {w : World} {ad : Option Addr} {n cap : Nat} {l : List Int} (h : SrcI w (.slice ad n cap) l) {k : Nat} (hk : k < l.length) : ∃ g off, ad = some ⟨g, off, none⟩ ∧ w.cell? ⟨g, off + k, none⟩ = some (.int .i64 (l[k]'hk)) := by
  obtain ⟨ad', c, e, h2⟩ := h
  cases e
  obtain ⟨g, off, e', h3⟩ := h2 (by omega)
  exact ⟨g, off, e', h3 k hk⟩
theorem SrcI.len {w : World} {v : Value} {l : List Int} (h : SrcI w v l) : ∃ (ad : Option Addr) (cap : Nat), v = .slice ad l.length cap := by
  obtain ⟨ad, cap, e, _⟩ := h
  exact ⟨ad, cap, e⟩

def ofN (ns : List Nat) : List Int := ns.map Int.ofNat
theorem take_at {α : Type} {l : List α} {k : Nat} (h : k < l.length) : l.take (k + 1) = l.take k ++ [l[k]] := List.take_succ_eq_append_getElem h
theorem wrap64_nat' {n : Nat} (h : n < 9223372036854775808) : IntKind.i64.wrap (n : Int) = (n : Int) := by
  simp [IntKind.wrap, IntKind.bits, IntKind.signed]; omega
/-- A row as an array. -/
def RowA (w : World) (g n cap : Nat) (d : Array Int) : Prop := RowI w 0 (.slice (some ⟨g, 0, none⟩) n cap) d.toList
theorem RowA.size {w : World} {g n cap : Nat} {d : Array Int} (h : RowA w g n cap d) : n = d.size := by
  have h' : RowI w 0 (.slice (some ⟨g, 0, none⟩) n cap) d.toList := h
  obtain ⟨ad, c, e, _⟩ := h'.form
  simpa using (Value.slice.inj e).2.1
theorem RowA.cell {w : World} {g n cap : Nat} {d : Array Int} (h : RowA w g n cap d) {k : Nat} (hk : k < n) : w.cell? ⟨g, k, none⟩ = some (.int .i64 d[k]!) ∧ w.frozen? ⟨g, k, none⟩ = false := by
  have hs := h.size
  have h' : RowI w 0 (.slice (some ⟨g, 0, none⟩) n cap) d.toList := h
  have := h'.cell (k := k) (by simp; omega)
  rw [Array.getElem_toList] at this
  rw [getElem!_pos d k (by omega)]
  exact this
theorem RowA.set {w : World} {g n cap : Nat} {d : Array Int} (h : RowA w g n cap d) (j : Nat) (x : Int) : RowA (w.setCell ⟨g, j, none⟩ (.int .i64 x)) g n cap (d.setIfInBounds j x) ∧ w.grownBy (w.setCell ⟨g, j, none⟩ (.int .i64 x)) (some g) := by
  have h' : RowI w 0 (.slice (some ⟨g, 0, none⟩) n cap) d.toList := h
  have := h'.set j x
  unfold RowA
  rw [Array.toList_setIfInBounds]
  exact this
theorem RowA.drew {w : World} {g n cap : Nat} {d : Array Int} (h : RowA w g n cap d) (q : Nat) : RowA (w.drewN q) g n cap d := h
theorem RowA.on {w w1 : World} {g n cap : Nat} {d : Array Int} (h : RowA w g n cap d) (hb : Below w.heap.size w w1) : RowA w1 g n cap d := RowI.on h hb
end Go.Proofs.YtfpmljgmfapoiaaGreat
/-
  A list of spans that is read; the document's Same of two lists that are the same.
-/
namespace Go.Proofs.YtfpmljgmfapoiaaGreat.Xp
open Go.RowKit
set_option linter.unusedVariables false
set_option linter.unusedSimpArgs false

/-- The slice v of w reads as the list. -/
def Src (w : World) (v : Value) (l : List (Nat × Nat)) : Prop :=
  ∃ (ad : Option Addr) (cap : Nat), v = .slice ad l.length cap ∧ (0 < l.length → ∃ g off, ad = some ⟨g, off, none⟩ ∧ ∀ j u, (flat l)[j]? = some u → w.cell? ⟨g, off + j, none⟩ = some u)
theorem Row.src {w : World} {b : Nat} {v : Value} {l : List (Nat × Nat)} (h : Row w b v l) : Src w v l := by
  rcases h.2 with ⟨hv, hn⟩ | ⟨g, cap, cur, hv, hb, hg, r⟩
  · exact ⟨none, 0, by rw [hv, hn], fun h0 => by omega⟩
  · subst hv
    refine ⟨_, cap, rfl, fun _ => ⟨g, 0, rfl, fun j u hu => ?_⟩⟩
    have := World.ownsRow.cells h (g := g) rfl j u hu
    rwa [Addr.add_lit] at this
theorem Src.keep {w w1 : World} {v : Value} {l : List (Nat × Nat)} (h : Src w v l) (hb : Below w.heap.size w w1) : Src w1 v l := by
  obtain ⟨ad, cap, rfl, h2⟩ := h
  refine ⟨ad, cap, rfl, fun h0 => ?_⟩
  obtain ⟨g, off, rfl, h3⟩ := h2 h0
  exact ⟨g, off, rfl, fun j u hu => by
    have := h3 j u hu
    rw [hb.cell (World.block_lt_of_cell? w _ this)]; exact this⟩
theorem Src.at {w : World} {v : Value} {l : List (Nat × Nat)} (h : Src w v l) : ∃ (ad : Option Addr) (cap : Nat), v = .slice ad l.length cap ∧
    (0 < l.length → ∃ g off, ad = some ⟨g, off, none⟩ ∧ ∀ k (hk : k < l.length), w.cell? ⟨g, off + k * 2, none⟩ = some (.int .u16 ((l[k]'hk).1 : Int)) ∧ w.cell? ⟨g, off + k * 2 + 1, none⟩ = some (.int .u16 ((l[k]'hk).2 : Int))) := by
  obtain ⟨ad, cap, rfl, h2⟩ := h
  refine ⟨ad, cap, rfl, fun h0 => ?_⟩
  obtain ⟨g, off, rfl, h3⟩ := h2 h0
  exact ⟨g, off, rfl, fun k hk => ⟨h3 _ _ (flat_at l k hk).1, by rw [Nat.add_assoc]; exact h3 _ _ (flat_at l k hk).2⟩⟩
end Go.Proofs.YtfpmljgmfapoiaaGreat.Xp
/-
  The fewest stems of a span, and of spans apart: by taking the greatest stem that begins where one stands and ends within the span. No program is named here.
-/
namespace Go.Proofs.YtfpmljgmfapoiaaGreat.Xp
open Go.RowKit
set_option linter.unusedVariables false

/-- The greatest f up to k, for which 2 ^ f ports from a on are a stem within n ports. -/
def mf (a n : Nat) : Nat → Nat
  | 0 => 0
  | f + 1 => if a % 2 ^ (f + 1) = 0 ∧ 2 ^ (f + 1) ≤ n then f + 1 else mf a n f
theorem mf_is (a n : Nat) (hn : 0 < n) : ∀ k, mf a n k ≤ k ∧ 2 ^ mf a n k ∣ a ∧ 2 ^ mf a n k ≤ n ∧ ∀ g, mf a n k < g → g ≤ k → ¬ (2 ^ g ∣ a ∧ 2 ^ g ≤ n)
  | 0 => ⟨Nat.le_refl _, ⟨a, by show a = 2 ^ 0 * a; rw [Nat.pow_zero, Nat.one_mul]⟩, by show 2 ^ 0 ≤ n; rw [Nat.pow_zero]; omega, fun g h1 h2 => absurd h1 (by omega)⟩
  | k + 1 => by
    obtain ⟨h1, h2, h3, h4⟩ := mf_is a n hn k
    unfold mf
    split
    · rename_i h
      exact ⟨Nat.le_refl _, Nat.dvd_of_mod_eq_zero h.1, h.2, fun g h1 h2 => absurd h1 (by omega)⟩
    · rename_i h
      refine ⟨by omega, h2, h3, fun g g1 g2 => ?_⟩
      by_cases hg : g ≤ k
      · exact h4 g g1 hg
      · obtain rfl : g = k + 1 := by omega
        exact fun hc => h ⟨Nat.mod_eq_zero_of_dvd hc.1, hc.2⟩
/-- The greatest f is the one that is found. -/
theorem mf_uniq {a n f : Nat} (hn : 0 < n) (h1 : f ≤ 16) (h2 : 2 ^ f ∣ a) (h3 : 2 ^ f ≤ n) (h4 : f = 16 ∨ ¬ (2 ^ (f + 1) ∣ a ∧ 2 ^ (f + 1) ≤ n)) : mf a n 16 = f := by
  obtain ⟨m1, m2, m3, m4⟩ := mf_is a n hn 16
  rcases Nat.lt_trichotomy (mf a n 16) f with h | h | h
  · exact absurd ⟨h2, h3⟩ (m4 f h h1)
  · exact h
  · rcases h4 with rfl | h4
    · omega
    · exact absurd ⟨Nat.dvd_trans (pow_dvd_le (by omega)) m2, Nat.le_trans (pow_le (by omega)) m3⟩ h4
/-- The stems of the n ports from a on, at most k of them. -/
def grd : Nat → Nat → Nat → List (Nat × Nat)
  | 0, _, _ => []
  | k + 1, a, n => if n = 0 then [] else (a, 16 - mf a n 16) :: grd k (a + 2 ^ mf a n 16) (n - 2 ^ mf a n 16)
theorem grd_zero (k a : Nat) : grd k a 0 = [] := by cases k <;> rfl
theorem grd_succ (k a n : Nat) (h : 0 < n) : grd (k + 1) a n = (a, 16 - mf a n 16) :: grd k (a + 2 ^ mf a n 16) (n - 2 ^ mf a n 16) := by
  show (if n = 0 then _ else _) = _
  rw [if_neg (by omega)]
theorem isMax_run {p : Nat → Bool} {a n : Nat} (h0 : 0 < n) (hf : full p a n) (he : p (a + n) = false ∨ a + n = 65536) (hb : a + n ≤ 65536) : IsMax p a (mf a n 16) := by
  obtain ⟨h1, h2, h3, h4⟩ := mf_is a n h0 16
  refine ⟨h1, h2, full_le hf h3, ?_⟩
  rintro ⟨g1, g2, g3⟩
  have hx := h4 _ (Nat.lt_succ_self _) (by omega)
  have hlt : n < 2 ^ (mf a n 16 + 1) := by
    apply Nat.lt_of_not_le
    exact fun hc => hx ⟨g2, hc⟩
  rcases he with he | he
  · have := g3 (a + n) (by omega) (by omega)
    rw [he] at this; cases this
  · obtain ⟨c, hc⟩ := g2
    obtain ⟨d, hd⟩ : 2 ^ (mf a n 16 + 1) ∣ 65536 := pow_dvd_le (f := mf a n 16 + 1) (g := 16) (by omega)
    generalize 2 ^ (mf a n 16 + 1) = z at *
    subst hc
    have hcd : c < d := by
      have : z * c < z * d := by omega
      exact Nat.lt_of_mul_lt_mul_left this
    have := Nat.mul_le_mul_left z hcd
    rw [Nat.mul_succ] at this
    omega
theorem tiles_run {p : Nat → Bool} {b : Nat} {l : List (Nat × Nat)} : ∀ (k a n : Nat), n ≤ k → full p a n → (p (a + n) = false ∨ a + n = 65536) → a + n ≤ 65536 → a + n ≤ b → Tiles p (a + n) b l → Tiles p a b (grd k a n ++ l)
  | 0, a, n, hk, _, _, _, _, ht => by
    obtain rfl : n = 0 := by omega
    exact ht
  | k + 1, a, n, hk, hf, he, hb, hbb, ht => by
    by_cases h0 : n = 0
    · subst h0; rw [grd_zero]; exact ht
    · have hn : 0 < n := by omega
      rw [grd_succ k a n hn]
      have hm := isMax_run hn hf he hb
      obtain ⟨h1, h2, h3, h4⟩ := mf_is a n hn 16
      generalize mf a n 16 = f at *
      have hp : 0 < 2 ^ f := Nat.pow_pos (by decide)
      have e : a + 2 ^ f + (n - 2 ^ f) = a + n := by omega
      exact .take hm (by omega) (tiles_run k (a + 2 ^ f) (n - 2 ^ f) (by omega) (fun i i1 i2 => hf i (by omega) (by omega)) (by rw [e]; exact he) (by omega) (by omega) (by rw [e]; exact ht))
/-- The fewest stems of spans apart. -/
def grds (l : List (Nat × Nat)) : List (Nat × Nat) := l.flatMap fun s => grd 65536 s.1 (s.2 + 1 - s.1)
theorem tiles_canon {p : Nat → Bool} : ∀ (l : List (Nat × Nat)) (k : Nat), Canon k l → k ≤ 65537 → (∀ i, i < 65536 → k ≤ i → p i = memB l i) → (∀ j, k = j + 1 → j < 65536 → p j = false) → Tiles p (min k 65536) 65536 (grds l)
  | [], k, _, hk, hp, _ => by
    have hb : bare p (min k 65536) (65536 - min k 65536) := fun i h1 h2 => by rw [hp i (by omega) (by omega)]; rfl
    rw [Tiles.skips (65536 - min k 65536) _ hb (by omega), show min k 65536 + (65536 - min k 65536) = 65536 by omega]
    exact .done _
  | s :: l, k, hc, hk, hp, hj => by
    obtain ⟨c1, c2, c3, c4⟩ := hc
    have hs1 : ∀ i, i < 65536 → s.1 ≤ i → i ≤ s.2 → p i = true := fun i h1 h2 h3 => by rw [hp i h1 (by omega), memB_cons, (hasB_iff s i).2 ⟨h2, h3⟩]; rfl
    have hs0 : ∀ i, i < 65536 → k ≤ i → i < s.1 → p i = false := fun i h1 h2 h3 => by
      rw [hp i h1 h2, memB_cons]
      have : hasB s i = false := by rw [← Bool.not_eq_true, hasB_iff]; omega
      rw [this, Bool.false_or, ← Bool.not_eq_true]
      intro hm
      have := (c4.from hm).1
      omega
    have hn : ∀ i, i < 65536 → i = s.2 + 1 → p i = false := fun i h1 h2 => by
      rw [hp i h1 (by omega), memB_cons]
      have : hasB s i = false := by rw [← Bool.not_eq_true, hasB_iff]; omega
      rw [this, Bool.false_or, ← Bool.not_eq_true]
      intro hm
      have := (c4.from hm).1
      omega
    have ih := tiles_canon l (s.2 + 2) c4 (by omega) (fun i h1 h2 => by
      rw [hp i h1 (by omega), memB_cons]
      have : hasB s i = false := by rw [← Bool.not_eq_true, hasB_iff]; omega
      rw [this, Bool.false_or]) (fun j e hj => hn j hj (by omega))
    have ih2 : Tiles p (s.2 + 1) 65536 (grds l) := by
      by_cases h : s.2 + 1 < 65536
      · rw [show min (s.2 + 2) 65536 = s.2 + 1 + 1 by omega] at ih
        exact .skip h (hn _ h rfl) ih
      · rw [show min (s.2 + 2) 65536 = s.2 + 1 by omega] at ih
        exact ih
    have hr := tiles_run (p := p) (b := 65536) (l := grds l) 65536 s.1 (s.2 + 1 - s.1) (by omega) (fun i h1 h2 => hs1 i (by omega) (by omega) (by omega))
      (by
        rw [show s.1 + (s.2 + 1 - s.1) = s.2 + 1 by omega]
        by_cases h : s.2 + 1 < 65536
        · exact .inl (hn _ h rfl)
        · exact .inr (by omega)) (by omega) (by omega) (by rw [show s.1 + (s.2 + 1 - s.1) = s.2 + 1 by omega]; exact ih2)
    rw [show min k 65536 = k by omega]
    have hbr : bare p k (s.1 - k) := fun i h1 h2 => hs0 i (by omega) h1 (by omega)
    rw [Tiles.skips (s.1 - k) k hbr (by omega), show k + (s.1 - k) = s.1 by omega]
    exact hr
/-- The fewest stems of a set, by its spans. -/
theorem tl_canon {p : Nat → Bool} {l : List (Nat × Nat)} (hc : Canon 0 l) (hp : ∀ i, i < 65536 → p i = memB l i) : tl p 16 0 = grds l :=
  (Tiles.is (by have := tiles_canon (p := p) l 0 hc (by omega) (fun i h _ => hp i h) (fun j e _ => by omega); simpa using this)).symm
theorem tl_span {lo hi : Nat} (h1 : lo ≤ hi) (h2 : hi < 65536) : tl (hasB (lo, hi)) 16 0 = grd 65536 lo (hi + 1 - lo) := by
  rw [tl_canon (l := [(lo, hi)]) ⟨Nat.zero_le _, h1, h2, trivial⟩ (fun i _ => by simp [memB_cons, memB_nil])]
  simp [grds]
end Go.Proofs.YtfpmljgmfapoiaaGreat.Xp
/-
  What the functions of expand are to hand back, each as a proposition of its own (proved of the code elsewhere).
-/
namespace Go.Proofs.YtfpmljgmfapoiaaGreat.Xp
open Go.RowKit
set_option linter.unusedVariables false

def OfN : Prop := ∀ (lo hi : Nat) (w : World), lo < 65536 → hi < lo →
    Calls Tryz.prog 87 #[.agg #[.int .u16 lo, .int .u16 hi]] w fun e w' => ∃ v' : Value, e = .returned (.tuple #[v', .int .i64 30]) ∧ RowT w' w.heap.size v' [] ∧ Below w.heap.size w w'
def OfC : Prop := ∀ (lo hi : Nat) (w : World), lo ≤ hi → hi < 65536 →
    Calls Tryz.prog 87 #[.agg #[.int .u16 lo, .int .u16 hi]] w fun e w' => ∃ v' : Value, e = .returned (.tuple #[v', .int .i64 0]) ∧ RowT w' w.heap.size v' (tl (hasB (lo, hi)) 16 0) ∧ Below w.heap.size w w'
def CntC : Prop := ∀ (lo hi : Nat) (w : World), lo ≤ hi → hi < 65536 →
    Calls Tryz.prog 63 #[.agg #[.int .u16 lo, .int .u16 hi]] w fun e w' => e = .returned (.tuple #[.int .i64 (((tl (hasB (lo, hi)) 16 0).length : Nat) : Int), .int .i64 0]) ∧ Below w.heap.size w w'
end Go.Proofs.YtfpmljgmfapoiaaGreat.Xp
/-
  Bits of stems.
-/
namespace Go.Proofs.YtfpmljgmfapoiaaGreat.Xp
open Go.RowKit
set_option linter.unusedVariables false

theorem and_low (b k : Nat) : b &&& (2 ^ k - 1) = b % 2 ^ k := Nat.and_two_pow_sub_one_eq_mod b k
end Go.Proofs.YtfpmljgmfapoiaaGreat.Xp
