/-
  Rows of nodes and of entries. Written by tools/mkTrU.py, after the rows of rules.
-/
import Derived.Test.YtfbkjghipahipaaTrPlG
import Derived.Test.YtfbkjghipahipaaBxW
import Derived.Test.YtfbkjghipahipaaBxY
import Derived.Test.YtfbkjghipahipaaProg
import Derived.Maps.AppendAt
import Derived.OwnWalk
import Derived.Deep.AppendLies
import Derived.Laws.CopyOwn
import Derived.Deep.DeepCutAuto
import Derived.RegionTactic
import Derived.BigRegion
namespace Go.Proofs.Ytfbkjghipahipaa
open Go.RowKit
set_option linter.unusedVariables false
set_option linter.unusedSimpArgs false

theorem run_store_val {P : Program} (w : World) (B o : Nat) (ty t : TypeId) (val : Value) (cs new old : Array Value) (hc : val.cells = cs) (h : w.heap[B]? = some (.cells old t (0, 0))) (hl : o + cs.size ≤ old.size)
    (hn : old.toList.take o ++ cs.toList ++ old.toList.drop (o + cs.size) = new.toList) (hi : (P.info? ty).map (·.size) = some cs.size) (h1 : cs.toList.all (·.oneCell') = true) :
    (Instr.storeAt ty (.pointer (some ⟨B, o, none⟩)) val).run P w = .ok () (w.setRow B new) := by
  have := run_storeCells_at (P := P) B o t cs.toList 0 old w h (by simpa using hl) (fun v hv => List.all_eq_true.1 h1 v hv)
  rw [show o + 0 + cs.toList.length = o + cs.size by simp, show o + 0 = o from rfl, hn, Array.toArray_toList] at this
  cases hq : P.info? ty with
  | none => simp [hq] at hi
  | some i =>
    have hs : cs.size = i.size := by simp [hq] at hi; omega
    simp [Instr.storeAt, Instr.sureAddr, storeVar, sizeOf, typeInfo, hq, hc, hs, this]
theorem wp_store_val {P : Program} {op : Oper} {a : Act} {w : World} {K : Act → World → Prop} {Q : Exit → Act → World → Prop} (ty : TypeId) (x y : Operand) (ho : op.op = .store ty x y)
    (B o : Nat) (val : Value) (cs new : Array Value) (hx : a.eval x = .pointer (some ⟨B, o, none⟩)) (hy : a.eval y = val) (hc : val.cells = cs) (t : TypeId) (old : Array Value)
    (h : w.heap[B]? = some (.cells old t (0, 0))) (hl : o + cs.size ≤ old.size) (hn : old.toList.take o ++ cs.toList ++ old.toList.drop (o + cs.size) = new.toList)
    (hi : (P.info? ty).map (·.size) = some cs.size) (h1 : cs.toList.all (·.oneCell') = true)
    (hk : ∀ w', w'.heap[B]? = some (.cells new t (0, 0)) → Only B w w' → K (a.put op.dst undef) w') : op.wp P a w K Q := by
  have hr := run_store_val (P := P) w B o ty t val cs new old hc h hl hn hi h1
  unfold Oper.wp execOp
  simp only [ho, hx, hy, Sem.run_bind, hr, Result.andThen_ok]
  exact hk _ (setRow_heap w B old new t _ h) (only_setRow w B new)
theorem wpList_store_val {P : Program} {ops : Array Oper} {rest : List Oper} {op : Oper} {a : Act} {w : World} {Q : Exit → Act → World → Prop} (hgd : op.guard = none) (ty : TypeId) (x y : Operand) (ho : op.op = .store ty x y)
    (B o : Nat) (val : Value) (cs new : Array Value) (hx : a.eval x = .pointer (some ⟨B, o, none⟩)) (hy : a.eval y = val) (hc : val.cells = cs) (t : TypeId) (old : Array Value)
    (h : w.heap[B]? = some (.cells old t (0, 0))) (hl : o + cs.size ≤ old.size) (hn : old.toList.take o ++ cs.toList ++ old.toList.drop (o + cs.size) = new.toList)
    (hi : (P.info? ty).map (·.size) = some cs.size) (h1 : cs.toList.all (·.oneCell') = true)
    (hk : ∀ w', w'.heap[B]? = some (.cells new t (0, 0)) → Only B w w' → wpList P ops Q rest (a.put op.dst undef) w') : wpList P ops Q (op :: rest) a w :=
  wpList_plain hgd fun K hK => wp_store_val ty x y ho B o val cs new hx hy hc t old h hl hn hi h1 fun w' a1 a2 => hK _ _ (hk w' a1 a2)
def encN (p : Nd) : List Value := [.int .i64 (p.a : Int), .int .i64 (p.b : Int), .bool p.h, .int .i64 p.v]
def flatN : List (Nd) → List Value
  | [] => []
  | p :: l => encN p ++ flatN l
theorem flatN_length (l : List (Nd)) : (flatN l).length = l.length * 4 := by
  induction l with
  | nil => rfl
  | cons p l ih => simp only [flatN, encN, List.length_append, List.length_cons, List.length_nil, ih]; omega
theorem flatN_append (l k : List (Nd)) : flatN (l ++ k) = flatN l ++ flatN k := by
  induction l with
  | nil => rfl
  | cons p l ih => simp only [flatN, List.cons_append, ih, List.append_assoc]
theorem flatN_one (l : List (Nd)) : ∀ u ∈ flatN l, u.oneCell' = true := by
  induction l with
  | nil => intro u hu; cases hu
  | cons p l ih =>
    intro u hu
    simp only [flatN, List.mem_append] at hu
    rcases hu with hu | hu
    · simp only [encN, List.mem_cons, List.not_mem_nil, or_false] at hu
      rcases hu with rfl | rfl | rfl | rfl <;> rfl
    · exact ih u hu
theorem flatN_at : ∀ (l : List (Nd)) (i : Nat) (h : i < l.length) (j : Nat) (hj : j < 4), (flatN l)[i * 4 + j]? = (encN (l[i]'h))[j]?
  | p :: l, 0, _, j, hj => by
    rw [Nat.zero_mul, Nat.zero_add]
    exact List.getElem?_append_left (by simp [encN]; omega)
  | p :: l, i + 1, h, j, hj => by
    have := flatN_at l i (by simpa using h) j hj
    show (encN p ++ flatN l)[(i + 1) * 4 + j]? = _
    rw [List.getElem?_append_right (by simp [encN]; omega), show (i + 1) * 4 + j - (encN p).length = i * 4 + j by simp [encN]; omega]
    exact this
theorem infoN : (Try.prog.info? 70).map (fun i => (i.zero, i.size, i.bytes)) = some (some (.agg #[.int .i64 0, .int .i64 0, .bool false, .int .i64 0]), 4, 32) := by kernel_rfl
/-- The row v of w holds the list. -/
def RowN (w : World) (base : Nat) (v : Value) (l : List (Nd)) : Prop := w.ownsRow base 70 4 v l.length (flatN l)
theorem RowN.base {w : World} {b b' : Nat} {v : Value} {l : List (Nd)} (h : RowN w b v l) (hb : b' ≤ b) : RowN w b' v l := by
  refine ⟨h.1, ?_⟩
  rcases h.2 with h2 | ⟨g, cap, cur, hv, hg, r⟩
  · exact .inl h2
  · exact .inr ⟨g, cap, cur, hv, by omega, r⟩
theorem RowN.on {w w1 : World} {b : Nat} {v : Value} {l : List (Nd)} (h : RowN w b v l) (hb : Below w.heap.size w w1) : RowN w1 b v l := by
  refine ⟨h.1, ?_⟩
  rcases h.2 with h2 | ⟨g, cap, cur, hv, hg, hh, r⟩
  · exact .inl h2
  · exact .inr ⟨g, cap, cur, hv, hg, by rw [hb.block g (Array.getElem?_eq_some_iff.1 hh).1]; exact hh, r⟩
theorem RowN.alloc {w : World} {b : Nat} {v : Value} {l : List (Nd)} (h : RowN w b v l) (o : Obj) : RowN (w.alloc o) b v l := World.ownsRow.alloc h o
theorem RowN.drew {w : World} {b : Nat} {v : Value} {l : List (Nd)} (h : RowN w b v l) : RowN w.drew b v l := h
theorem RowN.nil (w : World) (b : Nat) : RowN w b (.slice none 0 0) [] := World.ownsRow_nil w b _ _
theorem RowN.one (w : World) (b : Nat) (p : Nd) (hb : b ≤ w.heap.size) : RowN (w.alloc (.cells #[.int .i64 (p.a : Int), .int .i64 (p.b : Int), .bool p.h, .int .i64 p.v] 70)) b (.slice (some ⟨w.heap.size, 0, none⟩) 1 1) [p] :=
  World.ownsRow_lit w #[.int .i64 (p.a : Int), .int .i64 (p.b : Int), .bool p.h, .int .i64 p.v] 1 hb (by simp [maxLen]) rfl
theorem RowN.lt {w : World} {b : Nat} {v : Value} {l : List (Nd)} (h : RowN w b v l) : ∀ k, v.ownBlock = some k → b ≤ k ∧ k < w.heap.size := World.ownsRow.lt h
theorem RowN.put {w : World} {b : Nat} {v : Value} {l : List (Nd)} (h : RowN w b v l) {g i : Nat} (hg : some g ≠ v.ownBlock) (u : Value) : RowN (w.setCell ⟨g, i, none⟩ u) b v l := by
  refine ⟨h.1, ?_⟩
  rcases h.2 with h2 | ⟨g', cap, cur, hv, hb, hh, r⟩
  · exact .inl h2
  · exact .inr ⟨g', cap, cur, hv, hb, by rw [Below.heap_setCell _ _ _ _ (by intro e; apply hg; rw [hv]; simp [Value.ownBlock, e])]; exact hh, r⟩
/-- One owned row behind another. -/
theorem run_appendN (w : World) (ty : TypeId) (b : Nat) (v : Value) (l : List (Nd)) (h : RowN w b v l) (c : Nat) (u : Value) (k : List (Nd)) (hk : RowN w c u k)
    (hb : b ≤ w.heap.size) (hsz : l.length + k.length ≤ 4294967296) :
    ∃ v' w', (Builtin.append_ #[56, 56] ty #[v, u]).run Try.prog w = .ok v' w' ∧ RowN w' b v' (l ++ k) ∧ w.grownBy w' v.ownBlock := by
  obtain ⟨i0, hi, hz0, hz1, hz2⟩ := info_parts infoN
  have hmx : l.length + k.length ≤ maxLen := by unfold maxLen; omega
  rcases hk.2 with ⟨rfl, hk0⟩ | ⟨g, cap, cur, rfl, hg, hh, hnc, hcm, hcs, htk⟩
  · have hr := run_append_owned_none (P := Try.prog) (w := w) b 56 ty 70 i0 4 Try.underlying56 hi v l.length (flatN l) h
    refine ⟨v, w, hr, ?_, ⟨rfl, rfl, rfl, Nat.le_refl _, fun _ _ _ => rfl⟩⟩
    rw [List.eq_nil_of_length_eq_zero hk0, List.append_nil]
    exact h
  · have hn := World.ownsRow.cells hk (g := g) rfl
    obtain ⟨v', w', hr, ho, hgr, _⟩ := run_append_own (P := Try.prog) w b 56 ty 70 i0 (.agg #[.int .i64 0, .int .i64 0, .bool false, .int .i64 0]) 4 32 Try.underlying56 hi hz0 hz1 hz2 rfl (by decide) v l.length (flatN l) h ⟨g, 0, none⟩ k.length cap (flatN k) (flatN_length k) hn (flatN_one k) hmx (by omega) hb
    refine ⟨v', w', hr, ?_, hgr⟩
    unfold RowN
    rw [List.length_append, flatN_append]
    exact ho
theorem wp_appendN {o : Oper} {a : Act} {w : World} {K : Act → World → Prop} {Q : Exit → Act → World → Prop} (s x : Operand)
    (ho : o.op = .call { callee := .builtin .append, args := #[s, x], argTypes := #[56, 56] })
    (b : Nat) (v : Value) (l : List (Nd)) (hs : a.eval s = v) (h : RowN w b v l) (c : Nat) (u : Value) (k : List (Nd)) (hx : a.eval x = u) (hk : RowN w c u k)
    (hb : b ≤ w.heap.size) (hsz : l.length + k.length ≤ 4294967296)
    (hK : ∀ v' w', RowN w' b v' (l ++ k) → w.grownBy w' v.ownBlock → K (a.put o.dst v') w') : o.wp Try.prog a w K Q := by
  obtain ⟨v', w', hr, h2, h3⟩ := run_appendN w o.type b v l h c u k hk hb hsz
  unfold Oper.wp execOp
  simp only [ho, resolve, invoke, builtin, Sem.run_bind, Sem.run_pure, Result.andThen_ok, List.map_toArray, List.map_cons, List.map_nil, hs, hx, hr]
  exact hK v' w' h2 h3
theorem wpList_appendN {ops : Array Oper} {rest : List Oper} {o : Oper} {a : Act} {w : World} {Q : Exit → Act → World → Prop} (hgd : o.guard = none) (s x : Operand)
    (ho : o.op = .call { callee := .builtin .append, args := #[s, x], argTypes := #[56, 56] })
    (b : Nat) (v : Value) (l : List (Nd)) (hs : a.eval s = v) (h : RowN w b v l) (c : Nat) (u : Value) (k : List (Nd)) (hx : a.eval x = u) (hk : RowN w c u k)
    (hb : b ≤ w.heap.size) (hsz : l.length + k.length ≤ 4294967296)
    (hK : ∀ v' w', RowN w' b v' (l ++ k) → w.grownBy w' v.ownBlock → wpList Try.prog ops Q rest (a.put o.dst v') w') : wpList Try.prog ops Q (o :: rest) a w :=
  wpList_plain hgd fun _ hK' => wp_appendN s x ho b v l hs h c u k hx hk hb hsz fun v' w' h2 h3 => hK' _ _ (hK v' w' h2 h3)
theorem bel_grownN {B : Nat} {a w w' : World} {b : Nat} {v : Value} {l : List (Nd)} (h : Below B a w) (hr : RowN w b v l) (hg : w.grownBy w' v.ownBlock) (hB : B ≤ w.heap.size) (hb : B ≤ b) : Below B a w' :=
  h.grown hg hB fun k hk => Nat.le_trans hb (hr.lt k hk).1
/-- What a row looks like. -/
theorem RowN.form {w : World} {b : Nat} {v : Value} {l : List (Nd)} (h : RowN w b v l) :
    ∃ (ad : Option Addr) (cap : Nat), v = .slice ad l.length cap ∧ l.length ≤ cap ∧ (0 < l.length → ∃ g, ad = some ⟨g, 0, none⟩ ∧ b ≤ g ∧ g < w.heap.size ∧ ∀ k (hk : k < l.length) j, j < 4 → w.cell? ⟨g, k * 4 + j, none⟩ = (encN (l[k]'hk))[j]?) := by
  rcases h.2 with ⟨hv, hn⟩ | ⟨g, cap, cur, hv, hb, hg, hcap, r⟩
  · exact ⟨none, 0, by rw [hv, hn], by omega, fun h0 => by omega⟩
  · subst hv
    refine ⟨_, cap, rfl, hcap, fun _ => ⟨g, rfl, hb, (Array.getElem?_eq_some_iff.1 hg).1, fun k hk j hj => ?_⟩⟩
    have h' : w.ownsRow b 70 4 (.slice (some ⟨g, 0, none⟩) l.length cap) l.length (flatN l) := h
    rw [h'.cellAt (k * 4 + j) (by omega), flatN_at l k hk j hj]
theorem RowN.frozen {w : World} {b g cap n : Nat} {l : List (Nd)} (h : RowN w b (.slice (some ⟨g, 0, none⟩) n cap) l) (j : Nat) : w.frozen? ⟨g, j, none⟩ = false := by
  rcases h.2 with ⟨hv, _⟩ | ⟨g', cap', cur, hv, hb, hg, r⟩
  · cases hv
  · cases hv; simp [World.frozen?, hg]

/-- The slice v of w reads as the list of rules. -/
def SrcN (w : World) (v : Value) (l : List Nd) : Prop :=
  ∃ (ad : Option Addr) (cap : Nat), v = .slice ad l.length cap ∧ (l.length ≤ cap ∧ (ad = none → cap = 0)) ∧ (0 < l.length → ∃ g off, ad = some ⟨g, off, none⟩ ∧ ∀ k (hk : k < l.length) j, j < 4 → w.cell? ⟨g, off + (k * 4 + j), none⟩ = (encN (l[k]'hk))[j]?)
theorem encN_some (R : Nd) {j : Nat} (h : j < 4) : ∃ v, (encN R)[j]? = some v := ⟨(encN R)[j]'(by simp [encN]; omega), List.getElem?_eq_getElem _⟩
theorem SrcN.keep {w w1 : World} {v : Value} {l : List Nd} (h : SrcN w v l) (hb : Below w.heap.size w w1) : SrcN w1 v l := by
  obtain ⟨ad, cap, rfl, hc, h2⟩ := h
  refine ⟨ad, cap, rfl, hc, fun h0 => ?_⟩
  obtain ⟨g, off, rfl, h3⟩ := h2 h0
  exact ⟨g, off, rfl, fun k hk j hj => by
    have := h3 k hk j hj
    obtain ⟨u, hu⟩ := encN_some (l[k]'hk) hj
    rw [hb.cell (World.block_lt_of_cell? w _ (this.trans hu))]; exact this⟩
/-- A source whose block stays. -/
theorem SrcN.stay {w w1 : World} {v : Value} {l : List Nd} (h : SrcN w v l) (hb : ∀ k, v.ownBlock = some k → k < w.heap.size → w1.heap[k]? = w.heap[k]?) : SrcN w1 v l := by
  obtain ⟨ad, cap, rfl, hc, h2⟩ := h
  refine ⟨ad, cap, rfl, hc, fun h0 => ?_⟩
  obtain ⟨g, off, rfl, h3⟩ := h2 h0
  exact ⟨g, off, rfl, fun k hk j hj => by
    have := h3 k hk j hj
    obtain ⟨u, hu⟩ := encN_some (l[k]'hk) hj
    have hlt := World.block_lt_of_cell? w _ (this.trans hu)
    rw [World.cell?_of_block (w := w) (a := ⟨g, off + (k * 4 + j), none⟩) (hb g rfl hlt)]; exact this⟩
theorem RowN.src {w : World} {b : Nat} {v : Value} {l : List Nd} (h : RowN w b v l) : SrcN w v l := by
  obtain ⟨ad, cap, hv, hc, h2⟩ := h.form
  refine ⟨ad, cap, hv, ⟨hc, fun e => ?_⟩, fun h0 => ?_⟩
  · subst e
    rcases h.2 with ⟨hv', _⟩ | ⟨g, cap', cur, hv', _⟩
    · rw [hv] at hv'; injection hv'
    · rw [hv] at hv'; cases hv'
  obtain ⟨g, e, _, _, h3⟩ := h2 h0
  exact ⟨g, 0, e, fun k hk j hj => by rw [Nat.zero_add]; exact h3 k hk j hj⟩
theorem SrcN.flat {w : World} {g off n cap : Nat} {l : List Nd} (h : SrcN w (.slice (some ⟨g, off, none⟩) n cap) l) : ∀ j u, (flatN l)[j]? = some u → w.cell? ((⟨g, off, none⟩ : Addr).add j) = some u := by
  intro j u hu
  obtain ⟨ad, c, e, hc, h2⟩ := h
  cases e
  have hj : j < (flatN l).length := (List.getElem?_eq_some_iff.1 hu).1
  rw [flatN_length] at hj
  obtain ⟨g', off', e', h3⟩ := h2 (by omega)
  cases e'
  have hk : j / 4 < l.length := by omega
  have hm : j % 4 < 4 := Nat.mod_lt _ (by decide)
  have e1 : j / 4 * 4 + j % 4 = j := by omega
  have h4 := flatN_at l (j / 4) hk (j % 4) hm
  rw [e1] at h4
  have h5 := h3 (j / 4) hk (j % 4) hm
  rw [e1] at h5
  rw [Addr.add_lit, h5, ← h4]
  exact hu
theorem flatN_take (l : List Nd) (p : Nat) : (flatN l).take (p * 4) = flatN (l.take p) := by
  by_cases h : p ≤ l.length
  · have e := flatN_append (l.take p) (l.drop p)
    rw [List.take_append_drop] at e
    rw [e]
    have hl : (flatN (l.take p)).length = p * 4 := by rw [flatN_length, List.length_take]; congr 1; omega
    rw [List.take_append_of_le_length (by omega), List.take_of_length_le (by omega)]
  · rw [List.take_of_length_le (by rw [flatN_length]; omega), List.take_of_length_le (by omega)]
theorem flatN_drop (l : List Nd) (p : Nat) : (flatN l).drop (p * 4) = flatN (l.drop p) := by
  by_cases h : p ≤ l.length
  · have e := flatN_append (l.take p) (l.drop p)
    rw [List.take_append_drop] at e
    rw [e]
    have hl : (flatN (l.take p)).length = p * 4 := by rw [flatN_length, List.length_take]; congr 1; omega
    rw [← hl, List.drop_left]
  · rw [List.drop_eq_nil_of_le (by rw [flatN_length]; omega), List.drop_eq_nil_of_le (by omega)]; rfl
/-- A row with something in it. -/
theorem RowN.some {w : World} {b : Nat} {v : Value} {l : List Nd} (h : RowN w b v l) (h0 : 0 < l.length) : ∃ g cap, v = .slice (.some ⟨g, 0, none⟩) l.length cap ∧ l.length ≤ cap ∧ b ≤ g ∧ g < w.heap.size := by
  obtain ⟨ad, cap, hv, hc, h2⟩ := h.form
  obtain ⟨g, rfl, hb, hg, _⟩ := h2 h0
  exact ⟨g, cap, hv, hc, hb, hg⟩
/-- Rules laid over a row from a place on. -/
theorem RowN.over {w w' : World} {b g n cap : Nat} {l : List Nd} (h : RowN w b (.slice (.some ⟨g, 0, none⟩) n cap) l) (p : Nat) (k : List Nd) (hf : p + k.length ≤ n)
    (hw : ∀ cur, w.heap[g]? = .some (.cells cur 70 (0, 0)) → w'.heap[g]? = .some (.cells (cur.toList.take (p * 4) ++ flatN k ++ cur.toList.drop (p * 4 + (flatN k).length)).toArray 70 (0, 0))) :
    RowN w' b (.slice (.some ⟨g, 0, none⟩) n cap) (l.take p ++ k ++ l.drop (p + k.length)) := by
  have hn : l.length = n := by
    rcases h.2 with ⟨hv, _⟩ | ⟨g', cap', cur, hv, _⟩
    · cases hv
    · cases hv; rfl
  subst hn
  have hlen : (l.take p ++ k ++ l.drop (p + k.length)).length = l.length := by simp; omega
  rcases h.2 with ⟨hv, _⟩ | ⟨g', cap', cur, hv, hb, hg, hc, hm, hs, ht⟩
  · cases hv
  · cases hv
    refine ⟨by rw [hlen, flatN_length, hlen], .inr ⟨g, cap, _, by rw [hlen], hb, hw cur hg, by rw [hlen]; exact hc, hm, ?_, ?_⟩⟩
    · rw [flatN_length]
      simp only [List.size_toArray, List.length_append, List.length_take, List.length_drop, Array.length_toList, flatN_length]
      omega
    · rw [hlen]
      have e1 : cur.toList.take (p * 4) = flatN (l.take p) := by
        rw [← flatN_take, ← ht, List.take_take]; congr 1; omega
      have e2 : (cur.toList.drop (p * 4 + (flatN k).length)).take (l.length * 4 - (p * 4 + (flatN k).length)) = flatN (l.drop (p + k.length)) := by
        rw [← flatN_drop, ← ht, List.drop_take, flatN_length]
        rw [show p * 4 + k.length * 4 = (p + k.length) * 4 by omega]
      have l1 : (flatN (l.take p)).length = p * 4 := by rw [flatN_length, List.length_take]; omega
      rw [e1, flatN_append, flatN_append, ← e2]
      have l2 := flatN_length k
      rw [List.take_append, List.take_of_length_le (by rw [List.length_append, l1, l2]; omega)]
      congr 2
      rw [List.length_append, l1]
/-- 'append' of a source to an owned row; where the new row lies. -/
theorem run_appendSN (w : World) (ty : TypeId) (b : Nat) (v : Value) (l : List Nd) (h : RowN w b v l) (u : Value) (k : List Nd) (hk : SrcN w u k) (hb : b ≤ w.heap.size) (hsz : l.length + k.length ≤ 4294967296) :
    ∃ v' w', (Builtin.append_ #[56, 56] ty #[v, u]).run Try.prog w = .ok v' w' ∧ RowN w' b v' (l ++ k) ∧ w.grownBy w' v.ownBlock ∧ (v'.ownBlock = v.ownBlock ∨ v'.ownBlock = .some w.heap.size) := by
  obtain ⟨i0, hi, hz0, hz1, hz2⟩ := info_parts infoN
  have hmx : l.length + k.length ≤ maxLen := by unfold maxLen; omega
  have hk' := hk
  obtain ⟨ad, c, rfl, hc, h2⟩ := hk
  cases ad with
  | none =>
    have h0 : k.length = 0 := by have := hc.1; have := hc.2 rfl; omega
    have hc0 : c = 0 := hc.2 rfl
    have hr := run_append_owned_none (P := Try.prog) (w := w) b 56 ty 70 i0 4 Try.underlying56 hi v l.length (flatN l) h
    rw [h0, hc0]
    refine ⟨v, w, hr, ?_, ⟨rfl, rfl, rfl, Nat.le_refl _, fun _ _ _ => rfl⟩, .inl rfl⟩
    rw [List.eq_nil_of_length_eq_zero h0, List.append_nil]
    exact h
  | some a =>
    have hfl : ∀ j x, (flatN k)[j]? = .some x → w.cell? (a.add j) = .some x := by
      by_cases h0 : 0 < k.length
      · obtain ⟨g, off, e, _⟩ := h2 h0
        cases e
        exact hk'.flat
      · rw [List.eq_nil_of_length_eq_zero (by omega : k.length = 0)]
        intro j x hx
        simp [flatN] at hx
    obtain ⟨v', w', hr, ho, hgr, _, hat⟩ := run_append_own_at (P := Try.prog) w b 56 ty 70 i0 (.agg #[.int .i64 0, .int .i64 0, .bool false, .int .i64 0]) 4 32 Try.underlying56 hi hz0 hz1 hz2 rfl (by decide) v l.length (flatN l) h a k.length c (flatN k) (flatN_length k) hfl (flatN_one k) hmx (by omega) hb
    refine ⟨v', w', hr, ?_, hgr, hat⟩
    unfold RowN
    rw [List.length_append, flatN_append]
    exact ho
theorem wpList_appendSN {ops : Array Oper} {rest : List Oper} {o : Oper} {a : Act} {w : World} {Q : Exit → Act → World → Prop} (hgd : o.guard = none) (s x : Operand)
    (ho : o.op = .call { callee := .builtin .append, args := #[s, x], argTypes := #[56, 56] })
    (b : Nat) (v : Value) (l : List Nd) (hs : a.eval s = v) (h : RowN w b v l) (u : Value) (k : List Nd) (hx : a.eval x = u) (hk : SrcN w u k)
    (hb : b ≤ w.heap.size) (hsz : l.length + k.length ≤ 4294967296)
    (hK : ∀ v' w', RowN w' b v' (l ++ k) → w.grownBy w' v.ownBlock → (v'.ownBlock = v.ownBlock ∨ v'.ownBlock = .some w.heap.size) → wpList Try.prog ops Q rest (a.put o.dst v') w') : wpList Try.prog ops Q (o :: rest) a w := by
  refine wpList_plain hgd fun K hK' => ?_
  obtain ⟨v', w', hr, h2, h3, h4⟩ := run_appendSN w o.type b v l h u k hk hb hsz
  unfold Oper.wp execOp
  simp only [ho, resolve, invoke, builtin, Sem.run_bind, Sem.run_pure, Result.andThen_ok, List.map_toArray, List.map_cons, List.map_nil, hs, hx, hr]
  exact hK' _ _ (hK v' w' h2 h3 h4)
/-- A rule stored into an owned row. -/
theorem wp_storeN {o : Oper} {a : Act} {w : World} {K : Act → World → Prop} {Q : Exit → Act → World → Prop} (x y : Operand) (ho : o.op = .store 70 x y)
    (b g n cap : Nat) (l : List Nd) (hr : RowN w b (.slice (some ⟨g, 0, none⟩) n cap) l) (p : Nat) (hp : p < n) (R : Nd) (hx : a.eval x = .pointer (some ⟨g, p * 4, none⟩)) (hy : a.eval y = .agg #[.int .i64 (R.a : Int), .int .i64 (R.b : Int), .bool R.h, .int .i64 R.v])
    (hK : ∀ w', RowN w' b (.slice (some ⟨g, 0, none⟩) n cap) (l.take p ++ [R] ++ l.drop (p + [R].length)) → w.grownBy w' (some g) → K (a.put o.dst undef) w') : o.wp Try.prog a w K Q := by
  obtain ⟨cur, hg, hcs⟩ : ∃ cur, w.heap[g]? = some (.cells cur 70 (0, 0)) ∧ cur.size = cap * 4 ∧ n ≤ cap := by
    rcases hr.2 with ⟨hv, _⟩ | ⟨g', cap', cur, hv, hb, hg, hc, hm, hs, ht⟩
    · cases hv
    · cases hv; exact ⟨cur, hg, hs, by omega⟩
  refine wp_store_blk 70 x y ho g (p * 4) (encN R).toArray (cur.toList.take (p * 4) ++ encN R ++ cur.toList.drop (p * 4 + (encN R).toArray.size)).toArray hx hy 70 cur hg (by simp [encN]; omega) (by simp) (by kernel_rfl) (by simp [encN, Value.oneCell']) ?_
  intro w' h1 h2
  have hf : flatN [R] = encN R := by simp [flatN]
  refine hK w' (hr.over p [R] (by simp; omega) (fun cur' hg' => ?_)) ⟨h2.os, h2.tape, h2.output, Nat.le_of_eq h2.size.symm, fun k _ hk => h2.block k (fun e => hk (by rw [e]))⟩
  rw [hg] at hg'
  cases hg'
  rw [hf]
  simpa using h1
def encE (p : En) : List Value := [.int .u32 (p.k : Int), .int .i64 (p.n : Int), .int .i64 p.v]
def flatE : List (En) → List Value
  | [] => []
  | p :: l => encE p ++ flatE l
theorem flatE_length (l : List (En)) : (flatE l).length = l.length * 3 := by
  induction l with
  | nil => rfl
  | cons p l ih => simp only [flatE, encE, List.length_append, List.length_cons, List.length_nil, ih]; omega
theorem flatE_append (l k : List (En)) : flatE (l ++ k) = flatE l ++ flatE k := by
  induction l with
  | nil => rfl
  | cons p l ih => simp only [flatE, List.cons_append, ih, List.append_assoc]
theorem flatE_one (l : List (En)) : ∀ u ∈ flatE l, u.oneCell' = true := by
  induction l with
  | nil => intro u hu; cases hu
  | cons p l ih =>
    intro u hu
    simp only [flatE, List.mem_append] at hu
    rcases hu with hu | hu
    · simp only [encE, List.mem_cons, List.not_mem_nil, or_false] at hu
      rcases hu with rfl | rfl | rfl <;> rfl
    · exact ih u hu
theorem flatE_at : ∀ (l : List (En)) (i : Nat) (h : i < l.length) (j : Nat) (hj : j < 3), (flatE l)[i * 3 + j]? = (encE (l[i]'h))[j]?
  | p :: l, 0, _, j, hj => by
    rw [Nat.zero_mul, Nat.zero_add]
    exact List.getElem?_append_left (by simp [encE]; omega)
  | p :: l, i + 1, h, j, hj => by
    have := flatE_at l i (by simpa using h) j hj
    show (encE p ++ flatE l)[(i + 1) * 3 + j]? = _
    rw [List.getElem?_append_right (by simp [encE]; omega), show (i + 1) * 3 + j - (encE p).length = i * 3 + j by simp [encE]; omega]
    exact this
theorem infoE : (Try.prog.info? 45).map (fun i => (i.zero, i.size, i.bytes)) = some (some (.agg #[.int .u32 0, .int .i64 0, .int .i64 0]), 3, 24) := by kernel_rfl
/-- The row v of w holds the list. -/
def RowE (w : World) (base : Nat) (v : Value) (l : List (En)) : Prop := w.ownsRow base 45 3 v l.length (flatE l)
theorem RowE.base {w : World} {b b' : Nat} {v : Value} {l : List (En)} (h : RowE w b v l) (hb : b' ≤ b) : RowE w b' v l := by
  refine ⟨h.1, ?_⟩
  rcases h.2 with h2 | ⟨g, cap, cur, hv, hg, r⟩
  · exact .inl h2
  · exact .inr ⟨g, cap, cur, hv, by omega, r⟩
theorem RowE.on {w w1 : World} {b : Nat} {v : Value} {l : List (En)} (h : RowE w b v l) (hb : Below w.heap.size w w1) : RowE w1 b v l := by
  refine ⟨h.1, ?_⟩
  rcases h.2 with h2 | ⟨g, cap, cur, hv, hg, hh, r⟩
  · exact .inl h2
  · exact .inr ⟨g, cap, cur, hv, hg, by rw [hb.block g (Array.getElem?_eq_some_iff.1 hh).1]; exact hh, r⟩
theorem RowE.alloc {w : World} {b : Nat} {v : Value} {l : List (En)} (h : RowE w b v l) (o : Obj) : RowE (w.alloc o) b v l := World.ownsRow.alloc h o
theorem RowE.drew {w : World} {b : Nat} {v : Value} {l : List (En)} (h : RowE w b v l) : RowE w.drew b v l := h
theorem RowE.nil (w : World) (b : Nat) : RowE w b (.slice none 0 0) [] := World.ownsRow_nil w b _ _
theorem RowE.one (w : World) (b : Nat) (p : En) (hb : b ≤ w.heap.size) : RowE (w.alloc (.cells #[.int .u32 (p.k : Int), .int .i64 (p.n : Int), .int .i64 p.v] 45)) b (.slice (some ⟨w.heap.size, 0, none⟩) 1 1) [p] :=
  World.ownsRow_lit w #[.int .u32 (p.k : Int), .int .i64 (p.n : Int), .int .i64 p.v] 1 hb (by simp [maxLen]) rfl
theorem RowE.lt {w : World} {b : Nat} {v : Value} {l : List (En)} (h : RowE w b v l) : ∀ k, v.ownBlock = some k → b ≤ k ∧ k < w.heap.size := World.ownsRow.lt h
theorem RowE.put {w : World} {b : Nat} {v : Value} {l : List (En)} (h : RowE w b v l) {g i : Nat} (hg : some g ≠ v.ownBlock) (u : Value) : RowE (w.setCell ⟨g, i, none⟩ u) b v l := by
  refine ⟨h.1, ?_⟩
  rcases h.2 with h2 | ⟨g', cap, cur, hv, hb, hh, r⟩
  · exact .inl h2
  · exact .inr ⟨g', cap, cur, hv, hb, by rw [Below.heap_setCell _ _ _ _ (by intro e; apply hg; rw [hv]; simp [Value.ownBlock, e])]; exact hh, r⟩
/-- One owned row behind another. -/
theorem run_appendE (w : World) (ty : TypeId) (b : Nat) (v : Value) (l : List (En)) (h : RowE w b v l) (c : Nat) (u : Value) (k : List (En)) (hk : RowE w c u k)
    (hb : b ≤ w.heap.size) (hsz : l.length + k.length ≤ 4294967296) :
    ∃ v' w', (Builtin.append_ #[30, 30] ty #[v, u]).run Try.prog w = .ok v' w' ∧ RowE w' b v' (l ++ k) ∧ w.grownBy w' v.ownBlock := by
  obtain ⟨i0, hi, hz0, hz1, hz2⟩ := info_parts infoE
  have hmx : l.length + k.length ≤ maxLen := by unfold maxLen; omega
  rcases hk.2 with ⟨rfl, hk0⟩ | ⟨g, cap, cur, rfl, hg, hh, hnc, hcm, hcs, htk⟩
  · have hr := run_append_owned_none (P := Try.prog) (w := w) b 30 ty 45 i0 3 Try.underlying30 hi v l.length (flatE l) h
    refine ⟨v, w, hr, ?_, ⟨rfl, rfl, rfl, Nat.le_refl _, fun _ _ _ => rfl⟩⟩
    rw [List.eq_nil_of_length_eq_zero hk0, List.append_nil]
    exact h
  · have hn := World.ownsRow.cells hk (g := g) rfl
    obtain ⟨v', w', hr, ho, hgr, _⟩ := run_append_own (P := Try.prog) w b 30 ty 45 i0 (.agg #[.int .u32 0, .int .i64 0, .int .i64 0]) 3 24 Try.underlying30 hi hz0 hz1 hz2 rfl (by decide) v l.length (flatE l) h ⟨g, 0, none⟩ k.length cap (flatE k) (flatE_length k) hn (flatE_one k) hmx (by omega) hb
    refine ⟨v', w', hr, ?_, hgr⟩
    unfold RowE
    rw [List.length_append, flatE_append]
    exact ho
theorem wp_appendE {o : Oper} {a : Act} {w : World} {K : Act → World → Prop} {Q : Exit → Act → World → Prop} (s x : Operand)
    (ho : o.op = .call { callee := .builtin .append, args := #[s, x], argTypes := #[30, 30] })
    (b : Nat) (v : Value) (l : List (En)) (hs : a.eval s = v) (h : RowE w b v l) (c : Nat) (u : Value) (k : List (En)) (hx : a.eval x = u) (hk : RowE w c u k)
    (hb : b ≤ w.heap.size) (hsz : l.length + k.length ≤ 4294967296)
    (hK : ∀ v' w', RowE w' b v' (l ++ k) → w.grownBy w' v.ownBlock → K (a.put o.dst v') w') : o.wp Try.prog a w K Q := by
  obtain ⟨v', w', hr, h2, h3⟩ := run_appendE w o.type b v l h c u k hk hb hsz
  unfold Oper.wp execOp
  simp only [ho, resolve, invoke, builtin, Sem.run_bind, Sem.run_pure, Result.andThen_ok, List.map_toArray, List.map_cons, List.map_nil, hs, hx, hr]
  exact hK v' w' h2 h3
theorem wpList_appendE {ops : Array Oper} {rest : List Oper} {o : Oper} {a : Act} {w : World} {Q : Exit → Act → World → Prop} (hgd : o.guard = none) (s x : Operand)
    (ho : o.op = .call { callee := .builtin .append, args := #[s, x], argTypes := #[30, 30] })
    (b : Nat) (v : Value) (l : List (En)) (hs : a.eval s = v) (h : RowE w b v l) (c : Nat) (u : Value) (k : List (En)) (hx : a.eval x = u) (hk : RowE w c u k)
    (hb : b ≤ w.heap.size) (hsz : l.length + k.length ≤ 4294967296)
    (hK : ∀ v' w', RowE w' b v' (l ++ k) → w.grownBy w' v.ownBlock → wpList Try.prog ops Q rest (a.put o.dst v') w') : wpList Try.prog ops Q (o :: rest) a w :=
  wpList_plain hgd fun _ hK' => wp_appendE s x ho b v l hs h c u k hx hk hb hsz fun v' w' h2 h3 => hK' _ _ (hK v' w' h2 h3)
theorem bel_grownE {B : Nat} {a w w' : World} {b : Nat} {v : Value} {l : List (En)} (h : Below B a w) (hr : RowE w b v l) (hg : w.grownBy w' v.ownBlock) (hB : B ≤ w.heap.size) (hb : B ≤ b) : Below B a w' :=
  h.grown hg hB fun k hk => Nat.le_trans hb (hr.lt k hk).1
/-- What a row looks like. -/
theorem RowE.form {w : World} {b : Nat} {v : Value} {l : List (En)} (h : RowE w b v l) :
    ∃ (ad : Option Addr) (cap : Nat), v = .slice ad l.length cap ∧ l.length ≤ cap ∧ (0 < l.length → ∃ g, ad = some ⟨g, 0, none⟩ ∧ b ≤ g ∧ g < w.heap.size ∧ ∀ k (hk : k < l.length) j, j < 3 → w.cell? ⟨g, k * 3 + j, none⟩ = (encE (l[k]'hk))[j]?) := by
  rcases h.2 with ⟨hv, hn⟩ | ⟨g, cap, cur, hv, hb, hg, hcap, r⟩
  · exact ⟨none, 0, by rw [hv, hn], by omega, fun h0 => by omega⟩
  · subst hv
    refine ⟨_, cap, rfl, hcap, fun _ => ⟨g, rfl, hb, (Array.getElem?_eq_some_iff.1 hg).1, fun k hk j hj => ?_⟩⟩
    have h' : w.ownsRow b 45 3 (.slice (some ⟨g, 0, none⟩) l.length cap) l.length (flatE l) := h
    rw [h'.cellAt (k * 3 + j) (by omega), flatE_at l k hk j hj]
theorem RowE.frozen {w : World} {b g cap n : Nat} {l : List (En)} (h : RowE w b (.slice (some ⟨g, 0, none⟩) n cap) l) (j : Nat) : w.frozen? ⟨g, j, none⟩ = false := by
  rcases h.2 with ⟨hv, _⟩ | ⟨g', cap', cur, hv, hb, hg, r⟩
  · cases hv
  · cases hv; simp [World.frozen?, hg]

/-- The slice v of w reads as the list of rules. -/
def SrcE (w : World) (v : Value) (l : List En) : Prop :=
  ∃ (ad : Option Addr) (cap : Nat), v = .slice ad l.length cap ∧ (l.length ≤ cap ∧ (ad = none → cap = 0)) ∧ (0 < l.length → ∃ g off, ad = some ⟨g, off, none⟩ ∧ ∀ k (hk : k < l.length) j, j < 3 → w.cell? ⟨g, off + (k * 3 + j), none⟩ = (encE (l[k]'hk))[j]?)
theorem encE_some (R : En) {j : Nat} (h : j < 3) : ∃ v, (encE R)[j]? = some v := ⟨(encE R)[j]'(by simp [encE]; omega), List.getElem?_eq_getElem _⟩
theorem SrcE.keep {w w1 : World} {v : Value} {l : List En} (h : SrcE w v l) (hb : Below w.heap.size w w1) : SrcE w1 v l := by
  obtain ⟨ad, cap, rfl, hc, h2⟩ := h
  refine ⟨ad, cap, rfl, hc, fun h0 => ?_⟩
  obtain ⟨g, off, rfl, h3⟩ := h2 h0
  exact ⟨g, off, rfl, fun k hk j hj => by
    have := h3 k hk j hj
    obtain ⟨u, hu⟩ := encE_some (l[k]'hk) hj
    rw [hb.cell (World.block_lt_of_cell? w _ (this.trans hu))]; exact this⟩
/-- A source whose block stays. -/
theorem SrcE.stay {w w1 : World} {v : Value} {l : List En} (h : SrcE w v l) (hb : ∀ k, v.ownBlock = some k → k < w.heap.size → w1.heap[k]? = w.heap[k]?) : SrcE w1 v l := by
  obtain ⟨ad, cap, rfl, hc, h2⟩ := h
  refine ⟨ad, cap, rfl, hc, fun h0 => ?_⟩
  obtain ⟨g, off, rfl, h3⟩ := h2 h0
  exact ⟨g, off, rfl, fun k hk j hj => by
    have := h3 k hk j hj
    obtain ⟨u, hu⟩ := encE_some (l[k]'hk) hj
    have hlt := World.block_lt_of_cell? w _ (this.trans hu)
    rw [World.cell?_of_block (w := w) (a := ⟨g, off + (k * 3 + j), none⟩) (hb g rfl hlt)]; exact this⟩
theorem RowE.src {w : World} {b : Nat} {v : Value} {l : List En} (h : RowE w b v l) : SrcE w v l := by
  obtain ⟨ad, cap, hv, hc, h2⟩ := h.form
  refine ⟨ad, cap, hv, ⟨hc, fun e => ?_⟩, fun h0 => ?_⟩
  · subst e
    rcases h.2 with ⟨hv', _⟩ | ⟨g, cap', cur, hv', _⟩
    · rw [hv] at hv'; injection hv'
    · rw [hv] at hv'; cases hv'
  obtain ⟨g, e, _, _, h3⟩ := h2 h0
  exact ⟨g, 0, e, fun k hk j hj => by rw [Nat.zero_add]; exact h3 k hk j hj⟩
theorem SrcE.flat {w : World} {g off n cap : Nat} {l : List En} (h : SrcE w (.slice (some ⟨g, off, none⟩) n cap) l) : ∀ j u, (flatE l)[j]? = some u → w.cell? ((⟨g, off, none⟩ : Addr).add j) = some u := by
  intro j u hu
  obtain ⟨ad, c, e, hc, h2⟩ := h
  cases e
  have hj : j < (flatE l).length := (List.getElem?_eq_some_iff.1 hu).1
  rw [flatE_length] at hj
  obtain ⟨g', off', e', h3⟩ := h2 (by omega)
  cases e'
  have hk : j / 3 < l.length := by omega
  have hm : j % 3 < 3 := Nat.mod_lt _ (by decide)
  have e1 : j / 3 * 3 + j % 3 = j := by omega
  have h4 := flatE_at l (j / 3) hk (j % 3) hm
  rw [e1] at h4
  have h5 := h3 (j / 3) hk (j % 3) hm
  rw [e1] at h5
  rw [Addr.add_lit, h5, ← h4]
  exact hu
theorem flatE_take (l : List En) (p : Nat) : (flatE l).take (p * 3) = flatE (l.take p) := by
  by_cases h : p ≤ l.length
  · have e := flatE_append (l.take p) (l.drop p)
    rw [List.take_append_drop] at e
    rw [e]
    have hl : (flatE (l.take p)).length = p * 3 := by rw [flatE_length, List.length_take]; congr 1; omega
    rw [List.take_append_of_le_length (by omega), List.take_of_length_le (by omega)]
  · rw [List.take_of_length_le (by rw [flatE_length]; omega), List.take_of_length_le (by omega)]
theorem flatE_drop (l : List En) (p : Nat) : (flatE l).drop (p * 3) = flatE (l.drop p) := by
  by_cases h : p ≤ l.length
  · have e := flatE_append (l.take p) (l.drop p)
    rw [List.take_append_drop] at e
    rw [e]
    have hl : (flatE (l.take p)).length = p * 3 := by rw [flatE_length, List.length_take]; congr 1; omega
    rw [← hl, List.drop_left]
  · rw [List.drop_eq_nil_of_le (by rw [flatE_length]; omega), List.drop_eq_nil_of_le (by omega)]; rfl
/-- A row with something in it. -/
theorem RowE.some {w : World} {b : Nat} {v : Value} {l : List En} (h : RowE w b v l) (h0 : 0 < l.length) : ∃ g cap, v = .slice (.some ⟨g, 0, none⟩) l.length cap ∧ l.length ≤ cap ∧ b ≤ g ∧ g < w.heap.size := by
  obtain ⟨ad, cap, hv, hc, h2⟩ := h.form
  obtain ⟨g, rfl, hb, hg, _⟩ := h2 h0
  exact ⟨g, cap, hv, hc, hb, hg⟩
/-- Rules laid over a row from a place on. -/
theorem RowE.over {w w' : World} {b g n cap : Nat} {l : List En} (h : RowE w b (.slice (.some ⟨g, 0, none⟩) n cap) l) (p : Nat) (k : List En) (hf : p + k.length ≤ n)
    (hw : ∀ cur, w.heap[g]? = .some (.cells cur 45 (0, 0)) → w'.heap[g]? = .some (.cells (cur.toList.take (p * 3) ++ flatE k ++ cur.toList.drop (p * 3 + (flatE k).length)).toArray 45 (0, 0))) :
    RowE w' b (.slice (.some ⟨g, 0, none⟩) n cap) (l.take p ++ k ++ l.drop (p + k.length)) := by
  have hn : l.length = n := by
    rcases h.2 with ⟨hv, _⟩ | ⟨g', cap', cur, hv, _⟩
    · cases hv
    · cases hv; rfl
  subst hn
  have hlen : (l.take p ++ k ++ l.drop (p + k.length)).length = l.length := by simp; omega
  rcases h.2 with ⟨hv, _⟩ | ⟨g', cap', cur, hv, hb, hg, hc, hm, hs, ht⟩
  · cases hv
  · cases hv
    refine ⟨by rw [hlen, flatE_length, hlen], .inr ⟨g, cap, _, by rw [hlen], hb, hw cur hg, by rw [hlen]; exact hc, hm, ?_, ?_⟩⟩
    · rw [flatE_length]
      simp only [List.size_toArray, List.length_append, List.length_take, List.length_drop, Array.length_toList, flatE_length]
      omega
    · rw [hlen]
      have e1 : cur.toList.take (p * 3) = flatE (l.take p) := by
        rw [← flatE_take, ← ht, List.take_take]; congr 1; omega
      have e2 : (cur.toList.drop (p * 3 + (flatE k).length)).take (l.length * 3 - (p * 3 + (flatE k).length)) = flatE (l.drop (p + k.length)) := by
        rw [← flatE_drop, ← ht, List.drop_take, flatE_length]
        rw [show p * 3 + k.length * 3 = (p + k.length) * 3 by omega]
      have l1 : (flatE (l.take p)).length = p * 3 := by rw [flatE_length, List.length_take]; omega
      rw [e1, flatE_append, flatE_append, ← e2]
      have l2 := flatE_length k
      rw [List.take_append, List.take_of_length_le (by rw [List.length_append, l1, l2]; omega)]
      congr 2
      rw [List.length_append, l1]
/-- 'append' of a source to an owned row; where the new row lies. -/
theorem run_appendSE (w : World) (ty : TypeId) (b : Nat) (v : Value) (l : List En) (h : RowE w b v l) (u : Value) (k : List En) (hk : SrcE w u k) (hb : b ≤ w.heap.size) (hsz : l.length + k.length ≤ 4294967296) :
    ∃ v' w', (Builtin.append_ #[30, 30] ty #[v, u]).run Try.prog w = .ok v' w' ∧ RowE w' b v' (l ++ k) ∧ w.grownBy w' v.ownBlock ∧ (v'.ownBlock = v.ownBlock ∨ v'.ownBlock = .some w.heap.size) := by
  obtain ⟨i0, hi, hz0, hz1, hz2⟩ := info_parts infoE
  have hmx : l.length + k.length ≤ maxLen := by unfold maxLen; omega
  have hk' := hk
  obtain ⟨ad, c, rfl, hc, h2⟩ := hk
  cases ad with
  | none =>
    have h0 : k.length = 0 := by have := hc.1; have := hc.2 rfl; omega
    have hc0 : c = 0 := hc.2 rfl
    have hr := run_append_owned_none (P := Try.prog) (w := w) b 30 ty 45 i0 3 Try.underlying30 hi v l.length (flatE l) h
    rw [h0, hc0]
    refine ⟨v, w, hr, ?_, ⟨rfl, rfl, rfl, Nat.le_refl _, fun _ _ _ => rfl⟩, .inl rfl⟩
    rw [List.eq_nil_of_length_eq_zero h0, List.append_nil]
    exact h
  | some a =>
    have hfl : ∀ j x, (flatE k)[j]? = .some x → w.cell? (a.add j) = .some x := by
      by_cases h0 : 0 < k.length
      · obtain ⟨g, off, e, _⟩ := h2 h0
        cases e
        exact hk'.flat
      · rw [List.eq_nil_of_length_eq_zero (by omega : k.length = 0)]
        intro j x hx
        simp [flatE] at hx
    obtain ⟨v', w', hr, ho, hgr, _, hat⟩ := run_append_own_at (P := Try.prog) w b 30 ty 45 i0 (.agg #[.int .u32 0, .int .i64 0, .int .i64 0]) 3 24 Try.underlying30 hi hz0 hz1 hz2 rfl (by decide) v l.length (flatE l) h a k.length c (flatE k) (flatE_length k) hfl (flatE_one k) hmx (by omega) hb
    refine ⟨v', w', hr, ?_, hgr, hat⟩
    unfold RowE
    rw [List.length_append, flatE_append]
    exact ho
theorem wpList_appendSE {ops : Array Oper} {rest : List Oper} {o : Oper} {a : Act} {w : World} {Q : Exit → Act → World → Prop} (hgd : o.guard = none) (s x : Operand)
    (ho : o.op = .call { callee := .builtin .append, args := #[s, x], argTypes := #[30, 30] })
    (b : Nat) (v : Value) (l : List En) (hs : a.eval s = v) (h : RowE w b v l) (u : Value) (k : List En) (hx : a.eval x = u) (hk : SrcE w u k)
    (hb : b ≤ w.heap.size) (hsz : l.length + k.length ≤ 4294967296)
    (hK : ∀ v' w', RowE w' b v' (l ++ k) → w.grownBy w' v.ownBlock → (v'.ownBlock = v.ownBlock ∨ v'.ownBlock = .some w.heap.size) → wpList Try.prog ops Q rest (a.put o.dst v') w') : wpList Try.prog ops Q (o :: rest) a w := by
  refine wpList_plain hgd fun K hK' => ?_
  obtain ⟨v', w', hr, h2, h3, h4⟩ := run_appendSE w o.type b v l h u k hk hb hsz
  unfold Oper.wp execOp
  simp only [ho, resolve, invoke, builtin, Sem.run_bind, Sem.run_pure, Result.andThen_ok, List.map_toArray, List.map_cons, List.map_nil, hs, hx, hr]
  exact hK' _ _ (hK v' w' h2 h3 h4)
/-- A rule stored into an owned row. -/
theorem wp_storeE {o : Oper} {a : Act} {w : World} {K : Act → World → Prop} {Q : Exit → Act → World → Prop} (x y : Operand) (ho : o.op = .store 45 x y)
    (b g n cap : Nat) (l : List En) (hr : RowE w b (.slice (some ⟨g, 0, none⟩) n cap) l) (p : Nat) (hp : p < n) (R : En) (hx : a.eval x = .pointer (some ⟨g, p * 3, none⟩)) (hy : a.eval y = .agg #[.int .u32 (R.k : Int), .int .i64 (R.n : Int), .int .i64 R.v])
    (hK : ∀ w', RowE w' b (.slice (some ⟨g, 0, none⟩) n cap) (l.take p ++ [R] ++ l.drop (p + [R].length)) → w.grownBy w' (some g) → K (a.put o.dst undef) w') : o.wp Try.prog a w K Q := by
  obtain ⟨cur, hg, hcs⟩ : ∃ cur, w.heap[g]? = some (.cells cur 45 (0, 0)) ∧ cur.size = cap * 3 ∧ n ≤ cap := by
    rcases hr.2 with ⟨hv, _⟩ | ⟨g', cap', cur, hv, hb, hg, hc, hm, hs, ht⟩
    · cases hv
    · cases hv; exact ⟨cur, hg, hs, by omega⟩
  refine wp_store_blk 45 x y ho g (p * 3) (encE R).toArray (cur.toList.take (p * 3) ++ encE R ++ cur.toList.drop (p * 3 + (encE R).toArray.size)).toArray hx hy 45 cur hg (by simp [encE]; omega) (by simp) (by kernel_rfl) (by simp [encE, Value.oneCell']) ?_
  intro w' h1 h2
  have hf : flatE [R] = encE R := by simp [flatE]
  refine hK w' (hr.over p [R] (by simp; omega) (fun cur' hg' => ?_)) ⟨h2.os, h2.tape, h2.output, Nat.le_of_eq h2.size.symm, fun k _ hk => h2.block k (fun e => hk (by rw [e]))⟩
  rw [hg] at hg'
  cases hg'
  rw [hf]
  simpa using h1

end Go.Proofs.Ytfbkjghipahipaa
