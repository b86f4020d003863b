/-
  PkAL: TbV, one behind the other (tools/pack.py).
-/
import Derived.Test.YtgokmkholjfhbaaGreatPkAK
import Derived.RegionTactic
import Derived.BigRegion
import Derived.Test.YtgokmkholjfhbaaGreatPkAE
set_option linter.unusedVariables false
set_option linter.unusedSimpArgs false
namespace Go.Proofs.YtgokmkholjfhbaaGreat
open Go.RowKit
theorem yieldsIf_slice {P : Program} {ops : Array Oper} {S : World → Prop} {op : Oper} {a : Act} (hw : Region.wanted op (yielded ops a.tmps) = true) (ty : TypeId) (x : Operand) (lo hi mx : Option Operand) (ho : op.op = .slice ty x lo hi mx) (v : Value)
  (hr : ∀ w, (Instr.sliceAt ty (a.eval x) (lo.map a.eval) (hi.map a.eval) (mx.map a.eval)).run P w = .ok v w) : YieldsIf P ops S op v a :=
 .inl ⟨hw, fun w _ => by unfold execOp; simp only [ho, Sem.run_bind, hr w, Result.andThen_ok, Sem.run_pure]⟩
theorem cut_l' (w : World) (ad : Option Addr) (n cap l : Nat) (x : Int) (hx : x = (l : Int)) (h1 : l ≤ n) : (Instr.sliceAt 56 (.slice ad n cap) (some (.int .i64 x)) none none).run Tryz.prog w = .ok (cutU ad l n cap) w := by
 subst hx; exact run_cut_l w ad n cap l h1
theorem cut_h' (w : World) (ad : Option Addr) (n cap h : Nat) (y : Int) (hy : y = (h : Int)) (h2 : h ≤ cap) : (Instr.sliceAt 56 (.slice ad n cap) none (some (.int .i64 y)) none).run Tryz.prog w = .ok (.slice ad h cap) w := by
 subst hy; rw [run_cut_h w ad n cap h h2, cutU_zero]
theorem wp_storeU {o : Oper} {a : Act} {w : World} {K : Act → World → Prop} {Q : Exit → Act → World → Prop} (x y : Operand) (ho : o.op = .store 64 x y)
  (b g n cap : Nat) (l : List Ru) (hr : RowU w b (.slice (some ⟨g, 0, none⟩) n cap) l) (p : Nat) (hp : p < n) (R : Ru) (hx : a.eval x = .pointer (some ⟨g, p * 12, none⟩)) (hy : a.eval y = .agg #[.int .i64 R.i, .int .u32 R.s, .int .i64 R.sl, .int .u32 R.d, .int .i64 R.dl, .int .u16 R.p.1, .int .u16 R.p.2, .int .u16 R.q.1, .int .u16 R.q.2, .int .u8 R.m.1, .int .u8 R.m.2, .int .i64 R.act])
  (hK : ∀ w', RowU w' b (.slice (some ⟨g, 0, none⟩) n cap) (l.take p ++ [R] ++ l.drop (p + [R].length)) → w.grownBy w' (some g) → K (a.put o.dst undef) w') : o.wp Tryz.prog a w K Q := by
 obtain ⟨cur, hg, hcs⟩ : ∃ cur, w.heap[g]? = some (.cells cur 64 (0, 0)) ∧ cur.size = cap * 12 ∧ n ≤ cap := by
  rcases hr.2 with ⟨hv, _⟩ | ⟨g', cap', cur, hv, hb, hg, hc, hm, hs, ht⟩
  ·cases hv
  ·cases hv; exact ⟨cur, hg, hs, by omega⟩
 refine wp_store_blk 64 x y ho g (p * 12) (encU R).toArray (cur.toList.take (p * 12) ++ encU R ++ cur.toList.drop (p * 12 + (encU R).toArray.size)).toArray hx hy 64 cur hg (by simp [encU]; omega) (by simp) (by kernel_rfl) (by simp [encU, Value.oneCell']) ?_
 intro w' h1 h2
 have hf : flatU [R] = encU R := by simp [flatU]
 refine hK w' (hr.over p [R] (by simp; omega) (fun cur' hg' => ?_)) ⟨h2.os, h2.tape, h2.output, Nat.le_of_eq h2.size.symm, fun k _ hk => h2.block k (fun e => hk (by rw [e]))⟩
 rw [hg] at hg'
 cases hg'
 rw [hf]
 simpa using h1
theorem run_store_val {P : Program} (w : World) (B o : Nat) (ty t : TypeId) (val : Value) (cs new old : Array Value) (hc : val.cells = cs) (h : w.heap[B]? = some (.cells old t (0, 0))) (hl : o + cs.size ≤ old.size)
  (hn : old.toList.take o ++ cs.toList ++ old.toList.drop (o + cs.size) = new.toList) (hi : (P.info? ty).map (·.size) = some cs.size) (h1 : cs.toList.all (·.oneCell') = true) :
  (Instr.storeAt ty (.pointer (some ⟨B, o, none⟩)) val).run P w = .ok () (w.setRow B new) := by
 have := run_storeCells_at (P := P) B o t cs.toList 0 old w h (by simpa using hl) (fun v hv => List.all_eq_true.1 h1 v hv)
 rw [show o + 0 + cs.toList.length = o + cs.size by simp, show o + 0 = o from rfl, hn, Array.toArray_toList] at this
 cases hq : P.info? ty with
 | none => simp [hq] at hi
 | some i =>
  have hs : cs.size = i.size := by simp [hq] at hi; omega
  simp [Instr.storeAt, Instr.sureAddr, storeVar, sizeOf, typeInfo, hq, hc, hs, this]
theorem wp_store_val {P : Program} {op : Oper} {a : Act} {w : World} {K : Act → World → Prop} {Q : Exit → Act → World → Prop} (ty : TypeId) (x y : Operand) (ho : op.op = .store ty x y)
  (B o : Nat) (val : Value) (cs new : Array Value) (hx : a.eval x = .pointer (some ⟨B, o, none⟩)) (hy : a.eval y = val) (hc : val.cells = cs) (t : TypeId) (old : Array Value)
  (h : w.heap[B]? = some (.cells old t (0, 0))) (hl : o + cs.size ≤ old.size) (hn : old.toList.take o ++ cs.toList ++ old.toList.drop (o + cs.size) = new.toList)
  (hi : (P.info? ty).map (·.size) = some cs.size) (h1 : cs.toList.all (·.oneCell') = true)
  (hk : ∀ w', w'.heap[B]? = some (.cells new t (0, 0)) → Only B w w' → K (a.put op.dst undef) w') : op.wp P a w K Q := by
 have hr := run_store_val (P := P) w B o ty t val cs new old hc h hl hn hi h1
 unfold Oper.wp execOp
 simp only [ho, hx, hy, Sem.run_bind, hr, Result.andThen_ok]
 exact hk _ (setRow_heap w B old new t _ h) (only_setRow w B new)
theorem wpList_store_val {P : Program} {ops : Array Oper} {rest : List Oper} {op : Oper} {a : Act} {w : World} {Q : Exit → Act → World → Prop} (hgd : op.guard = none) (ty : TypeId) (x y : Operand) (ho : op.op = .store ty x y)
  (B o : Nat) (val : Value) (cs new : Array Value) (hx : a.eval x = .pointer (some ⟨B, o, none⟩)) (hy : a.eval y = val) (hc : val.cells = cs) (t : TypeId) (old : Array Value)
  (h : w.heap[B]? = some (.cells old t (0, 0))) (hl : o + cs.size ≤ old.size) (hn : old.toList.take o ++ cs.toList ++ old.toList.drop (o + cs.size) = new.toList)
  (hi : (P.info? ty).map (·.size) = some cs.size) (h1 : cs.toList.all (·.oneCell') = true)
  (hk : ∀ w', w'.heap[B]? = some (.cells new t (0, 0)) → Only B w w' → wpList P ops Q rest (a.put op.dst undef) w') : wpList P ops Q (op :: rest) a w :=
 wpList_plain hgd fun K hK => wp_store_val ty x y ho B o val cs new hx hy hc t old h hl hn hi h1 fun w' a1 a2 => hK _ _ (hk w' a1 a2)
theorem Tab.grown {w w' : World} {t : Nat} {v : Value} {M A : Int} {l l' : List Ru} {g n cap : Nat} (hv : v = .slice (some ⟨g, 0, none⟩) n cap) (h : Tab w t v M A l) (hr : RowU w' 0 v l') (hg : w.grownBy w' (some g)) : Tab w' t v M A l' ∧ Moved w w' t v v := by
 subst hv
 have hne : t ≠ g := fun e => h.2.2 (by simp [Value.ownBlock, e])
 refine ⟨⟨by rw [hg.block t h.lt (by simpa using hne)]; exact h.1, hr, h.2.2⟩, ⟨hg.os, hg.tape, hg.output, hg.size, fun k hk _ hv => hg.block k hk (fun e => hv (by simp at e; simp [Value.ownBlock, e])), fun k e => .inl e⟩⟩
theorem Tab.store {w w' : World} {t : Nat} {v v' : Value} {M A : Int} {l l' : List Ru} (h : Tab w t v M A l) (hr : RowU w 0 v' l') (hne : v'.ownBlock ≠ some t)
  (hb : w'.heap[t]? = some (.cells #[.int .i64 M, .int .i64 A, v'] 104 (0, 0))) (ho : Only t w w') (hown : ∀ k, v'.ownBlock = some k → v.ownBlock = some k ∨ w.heap.size ≤ k) : Tab w' t v' M A l' ∧ Moved w w' t v v' := by
 refine ⟨⟨hb, ?_, hne⟩, ⟨ho.os, ho.tape, ho.output, Nat.le_of_eq ho.size.symm, fun k hk ht _ => ho.block k ht, hown⟩⟩
 refine ⟨hr.1, ?_⟩
 rcases hr.2 with h2 | ⟨g, cap, cur, hv, hg, hh, r⟩
 ·exact .inl h2
 ·exact .inr ⟨g, cap, cur, hv, hg, by rw [ho.block g (fun e => hne (by rw [hv, e]; rfl))]; exact hh, r⟩
end Go.Proofs.YtgokmkholjfhbaaGreat
