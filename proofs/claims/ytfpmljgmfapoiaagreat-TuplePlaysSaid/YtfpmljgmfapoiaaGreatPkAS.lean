/-
  PkAS: TpP TpF TpM, one behind the other (tools/pack.py).
-/
import Derived.Test.YtfpmljgmfapoiaaGreatPkAR
import Derived.Deep.RegionHeld3
import Derived.Deep.MidRow
import Derived.Test.YtfpmljgmfapoiaaGreatPkAD
import Derived.MapViews
import Derived.DeepKeys4
import Derived.Maps.OwnSet
import Derived.Maps.Views
import Derived.Maps.OwnOps
import Derived.Maps.RangeWalk
import Derived.ProofKit
import Derived.OpenShut
import Derived.Lib.SmallJoins
/-
  put of a tuple's table. Written by tools/mkTpP.py.
-/
namespace Go.Proofs.YtfpmljgmfapoiaaGreat
open Go.RowKit
set_option linter.unusedVariables false
set_option linter.unusedSimpArgs false

theorem run_appendI1 (w : World) (ty : TypeId) (b : Nat) (v : Value) (l : List Int) (h : RowI w b v l) (g : Nat) (y : Int) (hk : w.cell? ⟨g, 0, none⟩ = some (.int .i64 y)) (hb : b ≤ w.heap.size) (hsz : l.length + 1 ≤ 4294967296) :
    ∃ v' w', (Builtin.append_ #[96, 96] ty #[v, .slice (some ⟨g, 0, none⟩) 1 1]).run Tryz.prog w = .ok v' w' ∧ RowI w' b v' (l ++ [y]) ∧ w.grownBy w' v.ownBlock ∧ (v'.ownBlock = v.ownBlock ∨ v'.ownBlock = .some w.heap.size) := by
  obtain ⟨i0, hi, hz0, hz1, hz2⟩ := info_parts infoI
  have hmx : l.length + 1 ≤ maxLen := by unfold maxLen; omega
  have hfl : ∀ j x, (eI [y])[j]? = some x → w.cell? ((⟨g, 0, none⟩ : Addr).add j) = some x := by
    intro j x hx
    have hj : j = 0 := by have := (List.getElem?_eq_some_iff.1 hx).1; simp [eI] at this; exact this
    subst hj
    simp only [eI, List.map_cons, List.getElem?_cons_zero, Option.some.injEq] at hx
    rw [Addr.add_lit, Nat.zero_add, ← hx]; exact hk
  obtain ⟨v', w', hr, ho, hgr, _, hat⟩ := run_append_own_at (P := Tryz.prog) w b 96 ty 3 i0 (.int .i64 0) 1 8 Tryz.underlying96 hi hz0 hz1 hz2 rfl (by decide) v l.length (eI l) h ⟨g, 0, none⟩ 1 1 (eI [y]) (by simp [eI]) hfl (eI_one [y]) hmx (by omega) hb
  refine ⟨v', w', hr, ?_, hgr, hat⟩
  unfold RowI
  rw [List.length_append, eI_app]
  exact ho
theorem wp_appendI1 {o : Oper} {a : Act} {w : World} {K : Act → World → Prop} {Q : Exit → Act → World → Prop} (s x : Operand)
    (ho : o.op = .call { callee := .builtin .append, args := #[s, x], argTypes := #[96, 96] })
    (b : Nat) (v : Value) (l : List Int) (hs : a.eval s = v) (h : RowI w b v l) (g : Nat) (y : Int) (hx : a.eval x = .slice (some ⟨g, 0, none⟩) 1 1) (hk : w.cell? ⟨g, 0, none⟩ = some (.int .i64 y))
    (hb : b ≤ w.heap.size) (hsz : l.length + 1 ≤ 4294967296)
    (hK : ∀ v' w', RowI w' b v' (l ++ [y]) → w.grownBy w' v.ownBlock → (v'.ownBlock = v.ownBlock ∨ v'.ownBlock = .some w.heap.size) → K (a.put o.dst v') w') : o.wp Tryz.prog a w K Q := by
  obtain ⟨v', w', hr, h2, h3, h4⟩ := run_appendI1 w o.type b v l h g y hk hb hsz
  unfold Oper.wp execOp
  simp only [ho, resolve, invoke, builtin, Sem.run_bind, Sem.run_pure, Result.andThen_ok, List.map_toArray, List.map_cons, List.map_nil, hs, hx, hr]
  exact hK v' w' h2 h3 h4
theorem blkG7 {w : World} {B : Nat} {v0 v1 v2 v3 v4 v5 v6 : Value} {t : TypeId} {fr : Nat × Nat} (h : w.heap[B]? = some (.cells #[v0, v1, v2, v3, v4, v5, v6] t fr)) : w.cell? ⟨B, 5, none⟩ = some v5 ∧ w.cell? ⟨B, 6, none⟩ = some v6 := ⟨blk_cell h rfl, blk_cell h rfl⟩
theorem hdRng {w : World} {B : Nat} {k : Hx.Hd} (h : w.heap[B]? = some (.cells #[.int .u32 k.s, .int .u32 k.d, .int .u16 k.p, .int .u16 k.q, .int .u8 k.r] 54)) : w.rangeAt B 0 [.int .u32 k.s, .int .u32 k.d, .int .u16 k.p, .int .u16 k.q, .int .u8 k.r] := by
  have := World.rangeAt_of_block h 0 5
  simpa using this
/-- What stands under a header behind a put. -/
def conP (C : Hx.Hd → List Int) (k : Hx.Hd) (y : Int) : Hx.Hd → List Int := fun x => if x = k then C k ++ [y] else C x
/-- The row under a header, and where it may lie. -/
theorem GrpF.rowAt {w : World} {G : Nat} {t : Tp} {C : Hx.Hd → List Int} {E : Nat} {l : List Hx.SlI} {h : Nat} {v : Value} {c P sp : Nat} {m : Hx.Hd → Option Hx.Sv} (f : GrpF w G t C E l h v c P sp m) (k : Hx.Hd) :
    RowI w 0 (svV ((m k).getD Hx.svZ)) (C k) ∧ (C k).length ≤ E ∧ ∀ b, (svV ((m k).getD Hx.svZ)).ownBlock = some b → b ≠ G ∧ b ≠ h ∧ v.ownBlock ≠ some b ∧ b < w.heap.size ∧ FootG G h v m b ∧ ∀ k' s', m k' = some s' → k' ≠ k → (svV s').ownBlock ≠ some b := by
  cases hm : m k with
  | none =>
    rw [f.no k hm]
    exact ⟨World.ownsRow_nil w 0 _ _, Nat.zero_le _, fun b e => by cases e⟩
  | some s =>
    obtain ⟨_, h2, h3⟩ := f.row k s hm
    refine ⟨h2, h3, fun b e => ?_⟩
    obtain ⟨o1, o2, o3⟩ := f.off k s hm b e
    exact ⟨o1, o2, o3, (h2.lt b e).2, .inr (.inr (.inr ⟨k, s, hm, e⟩)), fun k' s' hm' hne => f.apart k k' s s' hm hm' (fun e => hne e.symm) b e⟩
theorem heap_setCell_far (w : World) (B j b : Nat) (u : Value) (h : b ≠ B) : (w.setCell ⟨B, j, none⟩ u).heap[b]? = w.heap[b]? := Below.heap_setCell _ _ _ _ (fun e => h e)
set_option maxHeartbeats 2000000 in
theorem put_fin {w wa w5 w6 : World} {G : Nat} {t : Tp} {C : Hx.Hd → List Int} {E : Nat} {l : List Hx.SlI} {h : Nat} {v v6 : Value} {c P sp : Nat} {m : Hx.Hd → Option Hx.Sv} {k : Hx.Hd} {y : Int} {s0 s5 : Hx.Sv}
    (f : GrpF w G t C E l h v c P sp m) (fa : GrpF wa G t C E l h v c P sp m) (hbw : Below w.heap.size w wa) (hE : E < 65536)
    (hoff : ∀ b, (svV s0).ownBlock = some b → b ≠ G ∧ b ≠ h ∧ v.ownBlock ≠ some b ∧ b < w.heap.size ∧ FootG G h v m b ∧ ∀ k' s', m k' = some s' → k' ≠ k → (svV s').ownBlock ≠ some b)
    (hl : (C k).length ≤ E) (hr5 : RowI w5 0 (svV s5) (C k ++ [y])) (hg5 : wa.grownBy w5 (svV s0).ownBlock) (ho5 : (svV s5).ownBlock = (svV s0).ownBlock ∨ (svV s5).ownBlock = some wa.heap.size)
    (hT : Hx.Tb w6 h v6 65536 (Hx.putN m 65536 c k) (max P (Hx.putN m 65536 c k)) (Hx.putM m 65536 c k s5)) (hM : Hx.Moved w5 w6 h v v6)
    (hG6 : w6.heap[G]? = some (.cells #[.func (.func 99) #[.agg #[.int .i64 t.a, .int .i64 t.b, .int .i64 t.c, .int .i64 t.d, .int .u8 t.m]] #[], .func (.func 100) #[.agg #[.int .i64 t.a, .int .i64 t.b, .int .i64 t.c, .int .i64 t.d, .int .u8 t.m]] #[], .func (.func 101) #[.agg #[.int .i64 t.a, .int .i64 t.b, .int .i64 t.c, .int .i64 t.d, .int .u8 t.m]] #[], .func (.func 102) #[.agg #[.int .i64 t.a, .int .i64 t.b, .int .i64 t.c, .int .i64 t.d, .int .u8 t.m]] #[], .func (.func 103) #[.agg #[.int .i64 t.a, .int .i64 t.b, .int .i64 t.c, .int .i64 t.d, .int .u8 t.m]] #[], .pointer (some ⟨h, 0, none⟩), .int .i64 E] 127 (0, 0))) :
    (∃ l' v' c' P' sp' m', GrpF (w6.setCell ⟨G, 6, none⟩ (.int .i64 ((E : Int) + 1))) G t (conP C k y) (E + 1) l' h v' c' P' sp' m' ∧ ∀ b, FootG G h v' m' b → FootG G h v m b ∨ w.heap.size ≤ b) ∧ Chg w (w6.setCell ⟨G, 6, none⟩ (.int .i64 ((E : Int) + 1))) (FootG G h v m) := by
  have hz1 := hbw.size
  have hz2 := hg5.size
  have hz3 := hM.size
  have hGl := f.lt G (.inl rfl)
  have hhl := f.tab.lt
  have hvl : ∀ b, v.ownBlock = some b → b < w.heap.size := fun b e => f.tab.own e
  have hc : c < 65536 := by have := f.cP; have := f.PE; omega
  have hPM : Hx.putM m 65536 c k s5 = Hx.upd m k (some s5) := by
    unfold Hx.putM
    split
    · rfl
    · rw [if_neg (by omega)]
  have hPN : Hx.putN m 65536 c k ≤ c + 1 := by
    unfold Hx.putN
    split
    · omega
    · rw [if_neg (by omega)]; omega
  rw [hPM] at hT
  obtain ⟨sp6, l6, q1, q2, q3, q4, q5, q6, _, _⟩ := hT
  -- blocks that stay
  have hst : ∀ b, b < wa.heap.size → b ≠ G → b ≠ h → v.ownBlock ≠ some b → (svV s0).ownBlock ≠ some b → (w6.setCell ⟨G, 6, none⟩ (.int .i64 ((E : Int) + 1))).heap[b]? = wa.heap[b]? := fun b b1 b2 b3 b4 b5 => by
    rw [heap_setCell_far _ _ _ _ _ b2, hM.block b (by omega) b3 b4, hg5.block b b1 (fun e => b5 e.symm)]
  have h6 : ∀ b, v6.ownBlock = some b → v.ownBlock = some b ∨ w5.heap.size ≤ b := hM.own
  have h5 : ∀ b, (svV s5).ownBlock = some b → b ≠ G ∧ b ≠ h ∧ v.ownBlock ≠ some b ∧ b < w5.heap.size ∧ (FootG G h v m b ∨ w.heap.size ≤ b) ∧ ∀ k' s', m k' = some s' → k' ≠ k → (svV s').ownBlock ≠ some b := fun b e => by
    have hb5 := (hr5.lt b e).2
    rcases ho5 with o | o
    · rw [o] at e
      obtain ⟨a1, a2, a3, a4, a5, a6⟩ := hoff b e
      exact ⟨a1, a2, a3, hb5, .inl a5, a6⟩
    · rw [o] at e
      injection e with e
      subst e
      exact ⟨by omega, by omega, fun e => by have := hvl _ e; omega, hb5, .inr (by omega), fun k' s' e1 _ e2 => by have := f.lt _ (.inr (.inr (.inr ⟨k', s', e1, e2⟩))); omega⟩
  have hm' : ∀ x s, Hx.upd m k (some s5) x = some s → (x = k ∧ s = s5) ∨ (x ≠ k ∧ m x = some s) := fun x s e => by
    unfold Hx.upd at e
    split at e
    · rename_i hx; injection e with e; exact .inl ⟨hx, e.symm⟩
    · rename_i hx; exact .inr ⟨hx, e⟩
  refine ⟨⟨l6, v6, Hx.putN m 65536 c k, max P (Hx.putN m 65536 c k), sp6, Hx.upd m k (some s5), ?_, ?_⟩, ?_⟩
  · refine ⟨?_, ?_, q2, q3, q4, q5, q6, ?_, ?_, ?_, ?_, ?_, f.hG, ?_⟩
    · have := blk_set (j := 6) hG6 (.int .i64 ((E : Int) + 1))
      rw [this]
      simp
    · refine tabH_stay q1 (heap_setCell_far _ _ _ _ _ f.hG) fun b e => heap_setCell_far _ _ _ _ _ fun e2 => ?_
      subst e2
      rcases h6 _ e with e3 | e3
      · exact f.vG e3
      · omega
    · have := f.cP; have := f.PE; omega
    · intro x e
      unfold Hx.upd at e
      split at e
      · cases e
      · rename_i hx
        unfold conP; rw [if_neg hx]; exact f.no x e
    · intro x s e
      rcases hm' x s e with ⟨rfl, rfl⟩ | ⟨hx, e⟩
      · unfold conP; rw [if_pos rfl]
        refine ⟨by simp, rowI_stay hr5 fun b e2 => ?_, by simp; omega⟩
        obtain ⟨a1, a2, a3, a4, _⟩ := h5 b e2
        rw [heap_setCell_far _ _ _ _ _ a1, hM.block b a4 a2 a3]
      · unfold conP; rw [if_neg hx]
        obtain ⟨r1, r2, r3⟩ := fa.row x s e
        refine ⟨r1, rowI_stay r2 fun b e2 => ?_, by omega⟩
        obtain ⟨a1, a2, a3⟩ := fa.off x s e b e2
        exact hst b (r2.lt b e2).2 a1 a2 a3 (fun e3 => (hoff b e3).2.2.2.2.2 x s e hx e2)
    · intro x x' s s' e e' hne b eb eb'
      rcases hm' x s e with ⟨hx, hs⟩ | ⟨hx, e1⟩
      · subst hx hs
        rcases hm' x' s' e' with ⟨hx', _⟩ | ⟨hx', e1'⟩
        · exact hne hx'.symm
        · exact (h5 b eb).2.2.2.2.2 x' s' e1' hx' eb'
      · rcases hm' x' s' e' with ⟨hx', hs'⟩ | ⟨hx', e1'⟩
        · subst hx' hs'
          exact (h5 b eb').2.2.2.2.2 x s e1 hx eb
        · exact f.apart x x' s s' e1 e1' hne b eb eb'
    · intro x s e b eb
      have key : ∀ b, b < w5.heap.size → v.ownBlock ≠ some b → v6.ownBlock ≠ some b := fun b hb hv e6 => by
        rcases h6 b e6 with e7 | e7
        · exact hv e7
        · omega
      rcases hm' x s e with ⟨rfl, rfl⟩ | ⟨hx, e⟩
      · obtain ⟨a1, a2, a3, a4, _⟩ := h5 b eb
        exact ⟨a1, a2, key b a4 a3⟩
      · obtain ⟨a1, a2, a3⟩ := f.off x s e b eb
        exact ⟨a1, a2, key b (by have := f.lt b (.inr (.inr (.inr ⟨x, s, e, eb⟩))); omega) a3⟩
    · intro e
      rcases h6 G e with e7 | e7
      · exact f.vG e7
      · omega
  · intro b hb
    rcases hb with rfl | rfl | e | ⟨x, s, e, eb⟩
    · exact .inl (.inl rfl)
    · exact .inl (.inr (.inl rfl))
    · rcases h6 b e with e7 | e7
      · exact .inl (.inr (.inr (.inl e7)))
      · exact .inr (by omega)
    · rcases hm' x s e with ⟨rfl, rfl⟩ | ⟨hx, e⟩
      · exact (h5 b eb).2.2.2.2.1
      · exact .inl (.inr (.inr (.inr ⟨x, s, e, eb⟩)))
  · refine ⟨?_, ?_, ?_, ?_, fun b hb hn => ?_⟩
    · exact (hM.os.trans hg5.os).trans hbw.os
    · exact (hM.tape.trans hg5.tape).trans hbw.tape
    · exact (hM.output.trans hg5.output).trans hbw.output
    · rw [World.size_setCell]; omega
    · rw [hst b (by omega) (fun e => hn (.inl e)) (fun e => hn (.inr (.inl e))) (fun e => hn (.inr (.inr (.inl e)))) (fun e => hn (hoff b e).2.2.2.2.1), hbw.block b hb]
set_option maxHeartbeats 8000000 in
set_option maxRecDepth 20000 in
theorem putG {w : World} {G : Nat} {t : Tp} {C : Hx.Hd → List Int} {E : Nat} {l : List Hx.SlI} {h : Nat} {v : Value} {c P sp : Nat} {m : Hx.Hd → Option Hx.Sv} (f : GrpF w G t C E l h v c P sp m) (k : Hx.Hd) (y : Int) (o : Hx.OkH k) (hE : E < 65536) :
    Calls Tryz.prog 67 #[.pointer (some ⟨G, 0, none⟩), .agg #[.int .u32 k.s, .int .u32 k.d, .int .u16 k.p, .int .u16 k.q, .int .u8 k.r], .int .i64 y] w fun e w' => e = .returned (.tuple #[]) ∧ (∃ l' v' c' P' sp' m', GrpF w' G t (conP C k y) (E + 1) l' h v' c' P' sp' m' ∧ ∀ b, FootG G h v' m' b → FootG G h v m b ∨ w.heap.size ≤ b) ∧ Chg w w' (FootG G h v m) := by
  obtain ⟨W1, hW1⟩ : ∃ W1, W1 = w.alloc (.cells #[.int .u32 k.s, .int .u32 k.d, .int .u16 k.p, .int .u16 k.q, .int .u8 k.r] 54) := ⟨_, rfl⟩
  have hbW : Below w.heap.size w W1 := by rw [hW1]; exact (Below.refl _ _).alloc (Nat.le_refl _) _
  have hzW : W1.heap.size = w.heap.size + 1 := by rw [hW1]; simp
  have hK4 : W1.heap[w.heap.size]? = some (.cells #[.int .u32 k.s, .int .u32 k.d, .int .u16 k.p, .int .u16 k.q, .int .u8 k.r] 54) := by rw [hW1]; exact blk_new _ _
  have f1 := f.on hbW
  have hGl := f.lt G (.inl rfl)
  obtain ⟨c5, _⟩ := blkG7 f1.blk
  obtain ⟨k0, k1, k2, k3, k4⟩ := blk5 hK4
  have hget := fun (x : Kin W1) => Hx.getC h v 65536 c P m k x.val ((f1.tb (by omega)).on x.is) o
  have HF : Hid (GrpF w G t C E l h v c P sp m) := f
  have HF1 : Hid (GrpF W1 G t C E l h v c P sp m) := f1
  have HbW : Hid (Below w.heap.size w W1) := hbW
  have HK4 : Hid (W1.heap[w.heap.size]? = some (.cells #[.int .u32 k.s, .int .u32 k.d, .int .u16 k.p, .int .u16 k.q, .int .u8 k.r] 54)) := hK4
  have Ho : Hid (Hx.OkH k) := o
  clear f f1 hbW hK4 o
  go_enter Tryz.func67, Tryz.ntmps67
  go_upto_region 1 with (fail)
  rw [← hW1]
  clear hW1
  obtain ⟨s0, hs0⟩ : ∃ s0, s0 = (m k).getD Hx.svZ := ⟨_, rfl⟩
  rw [← hs0] at hget
  have Hs0 : Hid (s0 = (m k).getD Hx.svZ) := hs0
  clear hs0
  have kne : Nonempty (Kin (W1)) := ⟨⟨_, Below.refl _ _⟩⟩
  have kc0 : ∀ y : Kin (W1), y.val.cell? ⟨G, 5, none⟩ = some (.pointer (some ⟨h, 0, none⟩)) := fun y => by rw [kin_cell (by first | omega | (simp <;> omega))]; first | assumption | (simp [go_sem]; done) | simp [go_sem, *]
  have kc1 : ∀ y : Kin (W1), y.val.cell? ⟨w.heap.size, 0, none⟩ = some (.int .u32 k.s) := fun y => by rw [kin_cell (by first | omega | (simp <;> omega))]; first | assumption | (simp [go_sem]; done) | simp [go_sem, *]
  have kc2 : ∀ y : Kin (W1), y.val.cell? ⟨w.heap.size, 1, none⟩ = some (.int .u32 k.d) := fun y => by rw [kin_cell (by first | omega | (simp <;> omega))]; first | assumption | (simp [go_sem]; done) | simp [go_sem, *]
  have kc3 : ∀ y : Kin (W1), y.val.cell? ⟨w.heap.size, 2, none⟩ = some (.int .u16 k.p) := fun y => by rw [kin_cell (by first | omega | (simp <;> omega))]; first | assumption | (simp [go_sem]; done) | simp [go_sem, *]
  have kc4 : ∀ y : Kin (W1), y.val.cell? ⟨w.heap.size, 3, none⟩ = some (.int .u16 k.q) := fun y => by rw [kin_cell (by first | omega | (simp <;> omega))]; first | assumption | (simp [go_sem]; done) | simp [go_sem, *]
  have kc5 : ∀ y : Kin (W1), y.val.cell? ⟨w.heap.size, 4, none⟩ = some (.int .u8 k.r) := fun y => by rw [kin_cell (by first | omega | (simp <;> omega))]; first | assumption | (simp [go_sem]; done) | simp [go_sem, *]
  refine wp_region_kin (W1) (Below.refl _ _) (by kernel_rfl) (by kernel_rfl) ?_
  repeat (go_big_quiet_step ((go_at_call 51; exact kin_call (hget _))))
  refine wpQuiet_nil ?_
  rintro wq ⟨⟨xq, hxq⟩, hyq⟩
  have hq : Below (W1).heap.size (W1) wq := by rw [hyq]; exact hxq
  clear hyq hxq xq
  clear kne kc0 kc1 kc2 kc3 kc4 kc5
  obtain ⟨hcq, hfq⟩ := bcell hq
  have hzq := hq.size
  try simp at hzq
  clear hget k0 k1 k2 k3 k4 c5 hcq hfq
  have HF2 : Hid (GrpF wq G t C E l h v c P sp m) := HF1.out.on hq
  have HK2 : Hid (wq.heap[w.heap.size]? = some (.cells #[.int .u32 k.s, .int .u32 k.d, .int .u16 k.p, .int .u16 k.q, .int .u8 k.r] 54)) := blk_on HK4.out hq
  have HB2 : Hid (Below w.heap.size w wq) := HbW.out.trans (hq.mono (by omega))
  clear hq HF1 HK4 HbW
  obtain ⟨hr0, hl0, _⟩ := HF2.out.rowAt k
  obtain ⟨_, _, hoff⟩ := HF.out.rowAt k
  rw [← Hs0.out] at hr0 hoff
  have HR0 : Hid (RowI wq 0 (svV s0) (C k)) := hr0
  have HOff : Hid _ := hoff
  have Hl0 : Hid ((C k).length ≤ E) := hl0
  clear hr0 hoff hl0
  go_upto_region 2 with (fail)
  refine wp_region_held_drew (S := fun w' => w'.cell? ⟨G, 5, none⟩ = some (.pointer (some ⟨h, 0, none⟩)) ∧ w'.heap[w.heap.size]? = some (.cells #[.int .u32 k.s, .int .u32 k.d, .int .u16 k.p, .int .u16 k.q, .int .u8 k.r] 54)) (by kernel_rfl) ⟨(blkG7 HF2.out.blk).1, HK2.out⟩ (fun hS0 => ?_)
  obtain ⟨wd, hwd⟩ : ∃ x, x = wq.drew := ⟨_, rfl⟩
  have Hbd : Hid (Below wq.heap.size wq wd) := by show Below _ _ _; rw [hwd]; exact (Below.refl _ _).drew
  have Hzd : Hid (wd.heap.size = wq.heap.size) := by show _ = _; rw [hwd]; rfl
  rw [← hwd] at hS0 ⊢
  clear hwd
  refine wpTk (i := 0) (v := .pointer (some ⟨G, 0, none⟩)) hS0 ?_
  simp only [nrm]
  refine wpTk (i := 1) (v := .pointer (some ⟨G, 0, none⟩)) hS0 ?_
  simp only [nrm]
  refine wpTk (i := 2) (v := .pointer (some ⟨G, 5, none⟩)) hS0 ?_
  simp only [nrm]
  refine wpAnyH_take (i := 3) (v := .pointer (some ⟨h, 0, none⟩)) rfl (by kernel_rfl) (by kernel_rfl) (by kernel_rfl) (fun _ _ _ h => h) (.inl ⟨rfl, fun w' hw' => by have hcc := hw'.1; simp [execOp, go_sem, hcc]⟩) hS0 ?_
  simp only [nrm]
  refine wpLd (i := 4) rfl (yieldsIf_load_mid rfl 54 (.tmp 4) rfl w.heap.size 0 rfl [.int .u32 k.s, .int .u32 k.d, .int .u16 k.p, .int .u16 k.q, .int .u8 k.r] _ (fun w' hw' => hdRng hw'.2) Tryz.underlying54 rfl (by kernel_rfl)) hS0 ?_
  simp only [nrm]
  refine wpTk (i := 5) (v := .slice s0.ad s0.n s0.cap) hS0 ?_
  simp only [nrm]
  refine wpTk (i := 6) (v := .int .i64 y) hS0 ?_
  simp only [nrm]
  refine wpO 7 (fun K' hK' => ?_)
  go_wp2_with (fail)
  obtain ⟨wa, hwa⟩ : ∃ x, x = wd.alloc (.cells #[.int .i64 y] 3) := ⟨_, rfl⟩
  have hba : Below wd.heap.size wd wa := by rw [hwa]; exact (Below.refl _ _).alloc (Nat.le_refl _) _
  have Hza : Hid (wa.heap.size = wd.heap.size + 1) := by show _ = _; rw [hwa]; simp
  have Hca : Hid (wa.cell? ⟨wd.heap.size, 0, none⟩ = some (.int .i64 y)) := by show _ = _; rw [hwa]; exact blk_cell (blk_new _ _) rfl
  rw [← hwa]
  clear hwa
  have Hba : Hid (Below wq.heap.size wq wa) := Hbd.out.trans (hba.mono (by rw [Hzd.out]; exact Nat.le_refl _))
  have hS1 : wa.cell? ⟨G, 5, none⟩ = some (.pointer (some ⟨h, 0, none⟩)) ∧ wa.heap[w.heap.size]? = some (.cells #[.int .u32 k.s, .int .u32 k.d, .int .u16 k.p, .int .u16 k.q, .int .u8 k.r] 54) := ⟨cell_on1 hba hS0.1, blk_on hS0.2 hba⟩
  refine ⟨hS1, ?_⟩
  clear hba
  refine wpO 8 (fun K' hK' => ?_)
  refine wp_appendI1 (.tmp 22) (.tmp 24) rfl 0 (svV s0) (C k) rfl (HR0.out.on Hba.out) wd.heap.size y rfl Hca.out (Nat.zero_le _) (by have := Hl0.out; omega) (fun v5 w5 hr5 hg5 ho5 => ?_)
  obtain ⟨ad5, n5, cap5, rfl⟩ : ∃ ad n cap, v5 = .slice ad n cap := by
    obtain ⟨ad, cap, e, _⟩ := hr5.form
    exact ⟨ad, _, cap, e⟩
  have hown : ∀ b, (svV s0).ownBlock = some b → b < w.heap.size := fun b e => (HOff.out b e).2.2.2.1
  have hS2 : w5.cell? ⟨G, 5, none⟩ = some (.pointer (some ⟨h, 0, none⟩)) ∧ w5.heap[w.heap.size]? = some (.cells #[.int .u32 k.s, .int .u32 k.d, .int .u16 k.p, .int .u16 k.q, .int .u8 k.r] 54) := by
    refine ⟨?_, blk_gr hS1.2 hg5 (fun e => by have := hown _ e; omega)⟩
    have h1 : w5.heap[G]? = wa.heap[G]? := hg5.block G (World.block_lt_of_cell? _ _ hS1.1) (fun e => (HOff.out G e.symm).1 rfl)
    have h2 := hS1.1
    unfold World.cell? at h2 ⊢
    rw [h1]; exact h2
  refine hK' _ _ ⟨hS2, ?_⟩
  have F5 : GrpF wa G t C E l h v c P sp m := HF2.out.on Hba.out
  have HT5 : Hid (Hx.Tb w5 h v 65536 c P m) := ⟨sp, l, tabH_stay F5.tab (hg5.block h F5.tab.lt (fun e => (HOff.out h e.symm).2.1 rfl)) (fun b e => hg5.block b (F5.tab.own e) (fun e2 => (HOff.out b e2.symm).2.2.1 e)), F5.inv, F5.holds, F5.okm, F5.len, F5.cP, by have := F5.PE; omega, Nat.le_refl _⟩
  have HR5 : Hid (RowI w5 0 (.slice ad5 n5 cap5) (C k ++ [y])) := hr5
  have HG5 : Hid (wa.grownBy w5 (svV s0).ownBlock) := hg5
  have HO5 : Hid _ := ho5
  have HF5 : Hid _ := F5
  clear F5 hr5 hg5 ho5 hown
  refine wpO 9 (fun K' hK' => ?_)
  go_wp2_with (go_at_call 90; refine (Hx.putC h v 65536 c P m k ⟨ad5, n5, cap5⟩ w5 HT5.out Ho.out).mono ?_; rintro e w6 ⟨rfl, v6, hT6, hM6⟩)
  have hGw5 : G < w5.heap.size := World.block_lt_of_cell? _ _ hS2.1
  have HG6 : Hid (w6.heap[G]? = some (.cells #[.func (.func 99) #[.agg #[.int .i64 t.a, .int .i64 t.b, .int .i64 t.c, .int .i64 t.d, .int .u8 t.m]] #[], .func (.func 100) #[.agg #[.int .i64 t.a, .int .i64 t.b, .int .i64 t.c, .int .i64 t.d, .int .u8 t.m]] #[], .func (.func 101) #[.agg #[.int .i64 t.a, .int .i64 t.b, .int .i64 t.c, .int .i64 t.d, .int .u8 t.m]] #[], .func (.func 102) #[.agg #[.int .i64 t.a, .int .i64 t.b, .int .i64 t.c, .int .i64 t.d, .int .u8 t.m]] #[], .func (.func 103) #[.agg #[.int .i64 t.a, .int .i64 t.b, .int .i64 t.c, .int .i64 t.d, .int .u8 t.m]] #[], .pointer (some ⟨h, 0, none⟩), .int .i64 E] 127 (0, 0))) := by
    show _ = _
    rw [hM6.block G hGw5 (fun e => HF.out.hG e.symm) HF.out.vG, HG5.out.block G (by have := HF5.out.lt G (.inl rfl); exact this) (fun e => (HOff.out G e.symm).1 rfl)]
    exact HF5.out.blk
  have hw6 : w6.heap[w.heap.size]? = some (.cells #[.int .u32 k.s, .int .u32 k.d, .int .u16 k.p, .int .u16 k.q, .int .u8 k.r] 54) := by
    rw [hM6.block _ (blk_lt hS2.2) (fun e => by have := HF.out.tab.lt; omega) (fun e => by have := HF.out.tab.own e; omega)]; exact hS2.2
  refine ⟨⟨(blkG7 HG6.out).1, hw6⟩, ?_⟩
  refine wpAnyH_done (by kernel_rfl) ?_ _
  try simp only [nrm]
  have HT6 : Hid _ := hT6
  have HM6 : Hid (Hx.Moved w5 w6 h v v6) := hM6
  have c6 := (blkG7 HG6.out).2
  have cf := blk_free HG6.out 6
  have hw64 : wrap64 ((E : Int) + 1) = (E : Int) + 1 := by unfold wrap64; omega
  clear hT6 hM6 hw6 hGw5 hS0 hS1 hS2
  go_wp2
  exact bodyPost_end (v := .tuple #[]) (by simp [results, Tryz.results67, go_sem]) rfl ⟨rfl, put_fin (s5 := ⟨ad5, n5, cap5⟩) HF.out HF5.out (HB2.out.trans (Hba.out.mono HB2.out.size)) hE HOff.out Hl0.out HR5.out HG5.out HO5.out HT6.out HM6.out HG6.out⟩
end Go.Proofs.YtfpmljgmfapoiaaGreat
/-
  find of a tuple's table; how many slots it has. Written by tools/mkTpF.py.
-/
namespace Go.Proofs.YtfpmljgmfapoiaaGreat
open Go.RowKit
set_option linter.unusedVariables false
set_option linter.unusedSimpArgs false

theorem rng_bel1 {w w1 : World} {b o : Nat} {cs : List Value} (hb : Below w.heap.size w w1) (hl : b < w.heap.size) (h : w.rangeAt b o cs) : w1.rangeAt b o cs := fun j v hv => by
  have := h j v hv
  exact cell_on1 hb this
/-- How many slots a search looks at. -/
def stopL (l : List Hx.SlI) (k : Hx.Hd) (i : Nat) : Bool := match l[Hx.way k l.length i]? with
  | some s => decide (s.st = 0 ∨ s.st = 1 ∧ s.k = k)
  | none => false
def prbK (l : List Hx.SlI) (k : Hx.Hd) : Nat → Nat → Nat
  | 0, i => i + 1
  | f + 1, i => if stopL l k i = true then i + 1 else prbK l k f (i + 1)
def prbN (l : List Hx.SlI) (k : Hx.Hd) : Nat := prbK l k l.length 0
theorem prbK_is {l : List Hx.SlI} {k : Hx.Hd} {q : Nat} (h : Hx.Prb l k (q + 1)) : ∀ (f i : Nat), i ≤ q → q < i + f → prbK l k f i = q + 1
  | 0, i, h1, h2 => by omega
  | f + 1, i, h1, h2 => by
    obtain ⟨hr, s, hs, hd⟩ := h
    rw [Nat.add_sub_cancel] at hr hs
    unfold prbK
    by_cases e : i = q
    · subst e
      have : stopL l k i = true := by unfold stopL; rw [hs]; exact decide_eq_true hd
      rw [if_pos this]
    · have : ¬ stopL l k i = true := fun hst => by
        unfold stopL at hst
        cases hx : l[Hx.way k l.length i]? with
        | none => rw [hx] at hst; cases hst
        | some s' =>
          rw [hx] at hst
          obtain ⟨n1, n2⟩ := hr i (by omega) s' hx
          rcases of_decide_eq_true hst with e1 | e1
          · exact n1 e1
          · exact n2 e1
      rw [if_neg this]
      exact prbK_is ⟨by rw [Nat.add_sub_cancel]; exact hr, s, by rw [Nat.add_sub_cancel]; exact hs, hd⟩ f (i + 1) (by omega) (by omega)
theorem prbN_is {l : List Hx.SlI} {k : Hx.Hd} {p : Nat} (h : Hx.Prb l k p) (h1 : 1 ≤ p) (h2 : p < l.length) : prbN l k = p := by
  obtain ⟨q, rfl⟩ : ∃ q, p = q + 1 := ⟨p - 1, by omega⟩
  exact prbK_is h l.length 0 (Nat.zero_le _) (by omega)
theorem probesN {w : World} {G : Nat} {t : Tp} {C : Hx.Hd → List Int} {E : Nat} {l : List Hx.SlI} {h : Nat} {v : Value} {c P sp : Nat} {m : Hx.Hd → Option Hx.Sv} (f : GrpF w G t C E l h v c P sp m) (k : Hx.Hd) (o : Hx.OkH k) (hE : E ≤ 65536) :
    Calls Tryz.prog 52 #[.pointer (some ⟨h, 0, none⟩), .agg #[.int .u32 k.s, .int .u32 k.d, .int .u16 k.p, .int .u16 k.q, .int .u8 k.r]] w fun e w' => e = .returned (.int .i64 (prbN l k : Int)) ∧ Below w.heap.size w w' := by
  refine (Hx.probesC h v 65536 c sp l k w f.tab f.inv (by have := f.len; have := f.PE; omega) o).mono ?_
  rintro e w' ⟨p, rfl, h1, h2, h3, hb⟩
  rw [prbN_is h3 h1 h2]
  exact ⟨rfl, hb⟩
set_option maxHeartbeats 8000000 in
set_option maxRecDepth 20000 in
theorem findG {w : World} {G : Nat} {t : Tp} {C : Hx.Hd → List Int} {E : Nat} {l : List Hx.SlI} {h : Nat} {v : Value} {c P sp : Nat} {m : Hx.Hd → Option Hx.Sv} (f : GrpF w G t C E l h v c P sp m) (k : Hd) (o : OkH k) (bt : BdT t) (hE : E ≤ 65536) :
    Calls Tryz.prog 33 #[.pointer (some ⟨G, 0, none⟩), .agg #[.int .u32 k.s, .int .u32 k.d, .int .u16 k.p, .int .u16 k.q, .int .u8 k.r]] w fun e w' => e = .returned (.tuple #[svV ((m (cutH t k)).getD Hx.svZ), .int .i64 (prbN l (cutH t k) : Int)]) ∧ Below w.heap.size w w' := by
  obtain ⟨W1, hW1⟩ : ∃ W1, W1 = w.alloc (.cells #[.int .u32 k.s, .int .u32 k.d, .int .u16 k.p, .int .u16 k.q, .int .u8 k.r] 54) := ⟨_, rfl⟩
  have hbW : Below w.heap.size w W1 := by rw [hW1]; exact (Below.refl _ _).alloc (Nat.le_refl _) _
  have HZW : Hid (W1.heap.size = w.heap.size + 1) := by show _ = _; rw [hW1]; simp
  have HK4 : Hid (W1.heap[w.heap.size]? = some (.cells #[.int .u32 k.s, .int .u32 k.d, .int .u16 k.p, .int .u16 k.q, .int .u8 k.r] 54)) := by show _ = _; rw [hW1]; exact blk_new _ _
  have HF1 : Hid (GrpF W1 G t C E l h v c P sp m) := f.on hbW
  have HbW : Hid (Below w.heap.size w W1) := hbW
  have hhd := fun W => headerC t k W o bt
  have ok := cutH_ok (t := t) o
  obtain ⟨q, hq0⟩ : ∃ q, q = cutH t k := ⟨_, rfl⟩
  rw [← hq0] at hhd ok ⊢
  have Ok : Hid (Hx.OkH q) := ok
  obtain ⟨s0, hs0⟩ : ∃ s0, s0 = (m q).getD Hx.svZ := ⟨_, rfl⟩
  have Hs0 : Hid (s0 = (m q).getD Hx.svZ) := hs0
  have HGl : Hid (G < W1.heap.size) := HF1.out.lt G (.inl rfl)
  show Calls _ _ _ _ fun e w' => e = .returned (.tuple #[svV ((m q).getD Hx.svZ), _]) ∧ _
  rw [← hs0]
  clear f hbW o ok hq0 hs0 bt
  go_enter Tryz.func33, Tryz.ntmps33
  go_upto_region 1 with (fail)
  rw [← hW1]
  clear hW1
  go_cut [6] (fun s6 wx => ∃ A : Nat, s6 = .pointer (some ⟨A, 0, none⟩) ∧ Hid (W1.heap.size ≤ A) ∧ Hid (wx.heap[A]? = some (.cells #[.int .u32 q.s, .int .u32 q.d, .int .u16 q.p, .int .u16 q.q, .int .u8 q.r] 54)) ∧ Hid (Below W1.heap.size W1 wx))
  case first =>
    have rG : W1.rangeAt G 0 [.func (.func 99) #[.agg #[.int .i64 t.a, .int .i64 t.b, .int .i64 t.c, .int .i64 t.d, .int .u8 t.m]] #[], .func (.func 100) #[.agg #[.int .i64 t.a, .int .i64 t.b, .int .i64 t.c, .int .i64 t.d, .int .u8 t.m]] #[], .func (.func 101) #[.agg #[.int .i64 t.a, .int .i64 t.b, .int .i64 t.c, .int .i64 t.d, .int .u8 t.m]] #[], .func (.func 102) #[.agg #[.int .i64 t.a, .int .i64 t.b, .int .i64 t.c, .int .i64 t.d, .int .u8 t.m]] #[], .func (.func 103) #[.agg #[.int .i64 t.a, .int .i64 t.b, .int .i64 t.c, .int .i64 t.d, .int .u8 t.m]] #[]] := by have := World.rangeAt_of_block HF1.out.blk 0 5; simpa using this
    have rK : W1.rangeAt w.heap.size 0 [.int .u32 k.s, .int .u32 k.d, .int .u16 k.p, .int .u16 k.q, .int .u8 k.r] := by have := World.rangeAt_of_block HK4.out 0 5; simpa using this
    refine wp_region_held_drew (S := fun w' => Below W1.heap.size W1 w') (by kernel_rfl) (Below.drew (Below.refl _ _)) (fun hS0 => ?_)
    show wpAnyH _ _ _ _ _ 8 _ _ _
    obtain ⟨wd, hwd⟩ : ∃ x, x = W1.drew := ⟨_, rfl⟩
    have hzd : Hid (W1.heap.size = wd.heap.size) := by rw [hwd]; rfl
    rw [← hwd] at hS0 ⊢
    clear hwd
    refine wpTk (i := 0) (v := .pointer (some ⟨G, 0, none⟩)) hS0 ?_
    simp only [nrm]
    refine wpLd (i := 4) rfl (yieldsIf_load_mid rfl 54 (.tmp 3) rfl w.heap.size 0 rfl [.int .u32 k.s, .int .u32 k.d, .int .u16 k.p, .int .u16 k.q, .int .u8 k.r] _ (fun w' hw' => rng_bel1 hw' (by rw [HZW.out]; omega) rK) Tryz.underlying54 rfl (by kernel_rfl)) hS0 ?_
    try simp only [nrm]
    refine wpTk (i := 1) (v := .pointer (some ⟨G, 0, none⟩)) hS0 ?_
    simp only [nrm]
    refine wpTk (i := 2) (v := .pointer (some ⟨G, 0, none⟩)) hS0 ?_
    simp only [nrm]
    refine wpLd (i := 3) rfl (yieldsIf_load_mid rfl 124 (.tmp 9) rfl G 0 rfl [.func (.func 99) #[.agg #[.int .i64 t.a, .int .i64 t.b, .int .i64 t.c, .int .i64 t.d, .int .u8 t.m]] #[], .func (.func 100) #[.agg #[.int .i64 t.a, .int .i64 t.b, .int .i64 t.c, .int .i64 t.d, .int .u8 t.m]] #[], .func (.func 101) #[.agg #[.int .i64 t.a, .int .i64 t.b, .int .i64 t.c, .int .i64 t.d, .int .u8 t.m]] #[], .func (.func 102) #[.agg #[.int .i64 t.a, .int .i64 t.b, .int .i64 t.c, .int .i64 t.d, .int .u8 t.m]] #[], .func (.func 103) #[.agg #[.int .i64 t.a, .int .i64 t.b, .int .i64 t.c, .int .i64 t.d, .int .u8 t.m]] #[]] _ (fun w' hw' => rng_bel1 hw' HGl.out rG) Tryz.underlying124 rfl (by kernel_rfl)) hS0 ?_
    try simp only [nrm]
    refine wpAnyH_all (rs := [5, 6]) (by kernel_rfl) (by simp) ?_
    intro i hi
    simp only [mmL] at hi
    rcases hi with rfl | rfl
    · refine wpOp_of_wp rfl rfl (fun K' hK' => ?_)
      go_wp2_with (go_at_call 50; refine (hhd _).mono ?_; rintro e wa1 ⟨rfl, hb1⟩)
      have hz1 : Hid (wd.heap.size ≤ wa1.heap.size) := hb1.size
      have hs1 : Below W1.heap.size W1 wa1 := hS0.trans (hb1.mono hS0.size)
      refine ⟨hs1, ?_⟩
      refine wpO 6 (fun K' hK' => ?_)
      go_wp2_with (fail)
      have hb2 : Below wa1.heap.size wa1 (wa1.alloc (.cells #[.int .u32 0, .int .u32 0, .int .u16 0, .int .u16 0, .int .u8 0] 54)) := (Below.refl _ _).alloc (Nat.le_refl _) _
      have hn2 := blk_new wa1 (.cells #[.int .u32 0, .int .u32 0, .int .u16 0, .int .u16 0, .int .u8 0] 54)
      obtain ⟨wa2, hw2⟩ : ∃ x, x = wa1.alloc (.cells #[.int .u32 0, .int .u32 0, .int .u16 0, .int .u16 0, .int .u8 0] 54) := ⟨_, rfl⟩
      have hz2 : Hid (wa2.heap.size = wa1.heap.size + 1) := by show _ = _; rw [hw2]; simp
      rw [← hw2] at hb2 hn2 ⊢
      clear hw2
      have hs2 : Below W1.heap.size W1 wa2 := hs1.trans (hb2.mono hs1.size)
      refine ⟨hs2, ?_⟩
      have zhzd := hzd.out
      have zhz1 := hz1.out
      have zhz2 := hz2.out
      refine wpO 7 (fun K' hK' => ?_)
      refine wpSt 54 (.tmp 6) (.tmp 12) rfl (wa1.heap.size) 0 #[.int .u32 q.s, .int .u32 q.d, .int .u16 q.p, .int .u16 q.q, .int .u8 q.r] #[.int .u32 q.s, .int .u32 q.d, .int .u16 q.p, .int .u16 q.q, .int .u8 q.r] rfl rfl 54 _ hn2 (fun wb3 hp3 ho3 => hK' _ _ ?_)
      have ht3 : Below W1.heap.size W1 wb3 := hs2.trans (ho3.below (by omega))
      refine ⟨ht3, ?_⟩
      refine wpAnyH_done (by kernel_rfl) ?_ _
      try simp only [nrm]
      clear zhzd zhz1 zhz2
      have HS9 : Hid _ := ht3
      have HA9 : Hid _ := hp3
      go_wp2_with (fail)
      go_meet
      case rel => exact ⟨_, rfl, by have h1 := hzd.out; show W1.heap.size ≤ _; first | omega | exact hs1.size | exact hs3.size | exact hs4.size, HA9.out, HS9.out⟩
    · refine wpOp_of_wp rfl rfl (fun K' hK' => ?_)
      go_wp2_with (fail)
      have hb4 : Below wd.heap.size wd (wd.alloc (.cells #[.int .u32 0, .int .u32 0, .int .u16 0, .int .u16 0, .int .u8 0] 54)) := (Below.refl _ _).alloc (Nat.le_refl _) _
      have hn4 := blk_new wd (.cells #[.int .u32 0, .int .u32 0, .int .u16 0, .int .u16 0, .int .u8 0] 54)
      obtain ⟨wa4, hw4⟩ : ∃ x, x = wd.alloc (.cells #[.int .u32 0, .int .u32 0, .int .u16 0, .int .u16 0, .int .u8 0] 54) := ⟨_, rfl⟩
      have hz4 : Hid (wa4.heap.size = wd.heap.size + 1) := by show _ = _; rw [hw4]; simp
      rw [← hw4] at hb4 hn4 ⊢
      clear hw4
      have hs4 : Below W1.heap.size W1 wa4 := hS0.trans (hb4.mono hS0.size)
      refine ⟨hs4, ?_⟩
      refine wpO 5 (fun K' hK' => ?_)
      go_wp2_with (go_at_call 50; refine (hhd _).mono ?_; rintro e wa5 ⟨rfl, hb5⟩)
      have hz5 : Hid (wa4.heap.size ≤ wa5.heap.size) := hb5.size
      have hs5 : Below W1.heap.size W1 wa5 := hs4.trans (hb5.mono hs4.size)
      have hk5A := blk_on hn4 hb5
      refine ⟨hs5, ?_⟩
      have zhzd := hzd.out
      have zhz4 := hz4.out
      have zhz5 := hz5.out
      refine wpO 7 (fun K' hK' => ?_)
      refine wpSt 54 (.tmp 6) (.tmp 12) rfl (wd.heap.size) 0 #[.int .u32 q.s, .int .u32 q.d, .int .u16 q.p, .int .u16 q.q, .int .u8 q.r] #[.int .u32 q.s, .int .u32 q.d, .int .u16 q.p, .int .u16 q.q, .int .u8 q.r] rfl rfl 54 _ hk5A (fun wb6 hp6 ho6 => hK' _ _ ?_)
      have ht6 : Below W1.heap.size W1 wb6 := hs5.trans (ho6.below (by omega))
      refine ⟨ht6, ?_⟩
      refine wpAnyH_done (by kernel_rfl) ?_ _
      try simp only [nrm]
      clear zhzd zhz4 zhz5
      have HS9 : Hid _ := ht6
      have HA9 : Hid _ := hp6
      go_wp2_with (fail)
      go_meet
      case rel => exact ⟨_, rfl, by have h1 := hzd.out; show W1.heap.size ≤ _; first | omega | exact hs1.size | exact hs3.size | exact hs4.size, HA9.out, HS9.out⟩
  case rest =>
    obtain ⟨A, rfl, HA1, HA2, HB⟩ := hcut
    have HFc : Hid (GrpF wc G t C E l h v c P sp m) := HF1.out.on HB.out
    have hz1 := HB.out.size
    have HGl2 : G < wc.heap.size := by have := HGl.out; omega
    have HAl : A < wc.heap.size := blk_lt HA2.out
    have hget := fun (x : Kin wc) => Hx.getC h v 65536 c P m q x.val ((HFc.out.tb hE).on x.is) Ok.out
    rw [← Hs0.out] at hget
    have hprb := fun (W : World) (hb : Below wc.heap.size wc W) (x : Kin W) => probesN ((HFc.out.on hb).on x.is) q Ok.out hE
    obtain ⟨c5, _⟩ := blkG7 HFc.out.blk
    obtain ⟨k0, k1, k2, k3, k4⟩ := blk5 HA2.out
    have HBw : Hid (Below w.heap.size w wc) := HbW.out.trans (HB.out.mono (by rw [HZW.out]; omega))
    clear HF1 HK4 HbW hhd HB hz1
    go_upto_region 2 with (fail)
    have kne : Nonempty (Kin (wc)) := ⟨⟨_, Below.refl _ _⟩⟩
    have kc0 : ∀ y : Kin (wc), y.val.cell? ⟨G, 5, none⟩ = some (.pointer (some ⟨h, 0, none⟩)) := fun y => by rw [kin_cell (by first | omega | (simp <;> omega))]; first | assumption | (simp [go_sem]; done) | simp [go_sem, *]
    have kc1 : ∀ y : Kin (wc), y.val.cell? ⟨A, 0, none⟩ = some (.int .u32 q.s) := fun y => by rw [kin_cell (by first | omega | (simp <;> omega))]; first | assumption | (simp [go_sem]; done) | simp [go_sem, *]
    have kc2 : ∀ y : Kin (wc), y.val.cell? ⟨A, 1, none⟩ = some (.int .u32 q.d) := fun y => by rw [kin_cell (by first | omega | (simp <;> omega))]; first | assumption | (simp [go_sem]; done) | simp [go_sem, *]
    have kc3 : ∀ y : Kin (wc), y.val.cell? ⟨A, 2, none⟩ = some (.int .u16 q.p) := fun y => by rw [kin_cell (by first | omega | (simp <;> omega))]; first | assumption | (simp [go_sem]; done) | simp [go_sem, *]
    have kc4 : ∀ y : Kin (wc), y.val.cell? ⟨A, 3, none⟩ = some (.int .u16 q.q) := fun y => by rw [kin_cell (by first | omega | (simp <;> omega))]; first | assumption | (simp [go_sem]; done) | simp [go_sem, *]
    have kc5 : ∀ y : Kin (wc), y.val.cell? ⟨A, 4, none⟩ = some (.int .u8 q.r) := fun y => by rw [kin_cell (by first | omega | (simp <;> omega))]; first | assumption | (simp [go_sem]; done) | simp [go_sem, *]
    refine wp_region_kin (wc) (Below.refl _ _) (by kernel_rfl) (by kernel_rfl) ?_
    repeat (go_big_quiet_step ((go_at_call 51; exact kin_call (hget _))))
    refine wpQuiet_nil ?_
    rintro wq ⟨⟨xq, hxq⟩, hyq⟩
    have hq : Below (wc).heap.size (wc) wq := by rw [hyq]; exact hxq
    clear hyq hxq xq
    clear kne kc0 kc1 kc2 kc3 kc4 kc5
    obtain ⟨hcq, hfq⟩ := bcell hq
    have hzq := hq.size
    try simp at hzq
    have HQ : Hid (Below wc.heap.size wc wq) := hq
    have hprb2 := hprb wq hq
    have e5 := cell_on1 hq c5
    have f0 := cell_on1 hq k0
    have f1 := cell_on1 hq k1
    have f2 := cell_on1 hq k2
    have f3 := cell_on1 hq k3
    have f4 := cell_on1 hq k4
    have hz3 := hq.size
    clear hget hprb c5 k0 k1 k2 k3 k4 hcq hfq hq hzq
    rename World => w3
    go_upto_region 3 with (fail)
    have kne : Nonempty (Kin (w3)) := ⟨⟨_, Below.refl _ _⟩⟩
    have kc0 : ∀ y : Kin (w3), y.val.cell? ⟨G, 5, none⟩ = some (.pointer (some ⟨h, 0, none⟩)) := fun y => by rw [kin_cell (by first | omega | (simp <;> omega))]; first | assumption | (simp [go_sem]; done) | simp [go_sem, *]
    have kc1 : ∀ y : Kin (w3), y.val.cell? ⟨A, 0, none⟩ = some (.int .u32 q.s) := fun y => by rw [kin_cell (by first | omega | (simp <;> omega))]; first | assumption | (simp [go_sem]; done) | simp [go_sem, *]
    have kc2 : ∀ y : Kin (w3), y.val.cell? ⟨A, 1, none⟩ = some (.int .u32 q.d) := fun y => by rw [kin_cell (by first | omega | (simp <;> omega))]; first | assumption | (simp [go_sem]; done) | simp [go_sem, *]
    have kc3 : ∀ y : Kin (w3), y.val.cell? ⟨A, 2, none⟩ = some (.int .u16 q.p) := fun y => by rw [kin_cell (by first | omega | (simp <;> omega))]; first | assumption | (simp [go_sem]; done) | simp [go_sem, *]
    have kc4 : ∀ y : Kin (w3), y.val.cell? ⟨A, 3, none⟩ = some (.int .u16 q.q) := fun y => by rw [kin_cell (by first | omega | (simp <;> omega))]; first | assumption | (simp [go_sem]; done) | simp [go_sem, *]
    have kc5 : ∀ y : Kin (w3), y.val.cell? ⟨A, 4, none⟩ = some (.int .u8 q.r) := fun y => by rw [kin_cell (by first | omega | (simp <;> omega))]; first | assumption | (simp [go_sem]; done) | simp [go_sem, *]
    refine wp_region_kin (w3) (Below.refl _ _) (by kernel_rfl) (by kernel_rfl) ?_
    repeat (go_big_quiet_step ((go_at_call 52; exact kin_call (hprb2 _))))
    refine wpQuiet_nil ?_
    rintro wq ⟨⟨xq, hxq⟩, hyq⟩
    have hq : Below (w3).heap.size (w3) wq := by rw [hyq]; exact hxq
    clear hyq hxq xq
    clear kne kc0 kc1 kc2 kc3 kc4 kc5
    obtain ⟨hcq, hfq⟩ := bcell hq
    have hzq := hq.size
    try simp at hzq
    have HB9 : Hid (Below w.heap.size w wq) := HBw.out.trans ((HQ.out.trans (hq.mono HQ.out.size)).mono HBw.out.size)
    clear hprb2 e5 f0 f1 f2 f3 f4 hcq hfq hq hzq
    go_wp2
    go_ret2
    exact ⟨rfl, HB9.out⟩
set_option maxHeartbeats 1000000 in
theorem slotsG {w : World} {G : Nat} {t : Tp} {C : Hx.Hd → List Int} {E : Nat} {l : List Hx.SlI} {h : Nat} {v : Value} {c P sp : Nat} {m : Hx.Hd → Option Hx.Sv} (f : GrpF w G t C E l h v c P sp m) :
    Calls Tryz.prog 137 #[.pointer (some ⟨h, 0, none⟩)] w fun e w' => e = .returned (.int .i64 l.length) ∧ Below w.heap.size w w' := by
  obtain ⟨c0, c1, c2, c3⟩ := Hx.blk4 f.tab.1
  obtain ⟨ad, cap, rfl, _, _⟩ := f.tab.2.1.form
  obtain ⟨n, hn⟩ : ∃ n, n = l.length := ⟨_, rfl⟩
  rw [← hn] at c3 ⊢
  clear f hn
  go_enter Tryz.func137, Tryz.ntmps137
  go_wp2
  go_ret
  exact ⟨rfl, Below.refl _ _⟩
end Go.Proofs.YtfpmljgmfapoiaaGreat
/-
  Maps whose keys are tuples: to tables, and to nothing (sets).
-/
namespace Go.Proofs.YtfpmljgmfapoiaaGreat
open Go.ChangeShapes Go.WideShapes Go.ChangeAt Go.RowKit Go.Joins Go.Maps
set_option linter.unusedVariables false
set_option linter.unusedSimpArgs false
set_option maxRecDepth 100000

theorem tp_cells : Tryz.prog.cellsOf 144 = 5 := by kernel_rfl
theorem tp_laid : laidOutB Tryz.prog = true := by kernel_rfl
theorem tp_row : (144 : TypeId) < Tryz.prog.types.size := of_decide_eq_true (by kernel_rfl)
theorem tp_deep : Tryz.prog.keyTypeAt (Tryz.prog.types.size + 1) 144 = true := by kernel_rfl
theorem tp_wide : (match Tryz.prog.underlying 144 with | some (.array _ _) | some (.struct _) => true | _ => false) = true := by rw [Tryz.underlying144]
theorem tp_keyed : Keyed Tryz.prog 144 := Keyed.of_law (deep_law_laid tp_laid (m := 2) (by omega) tp_row (by kernel_rfl) tp_wide)
theorem tp_formed {c0 c1 c2 c3 c4 : Value} : (Value.agg #[c0, c1, c2, c3, c4]).formed Tryz.prog 144 = true := by simp [Value.formed, Tryz.underlying144, tp_cells]
theorem wfI64 {a : Int} (h : -9223372036854775808 ≤ a ∧ a ≤ 9223372036854775807) : (Lit.int .i64 a).wf = true := by
  have e1 : IntKind.i64.min = -9223372036854775808 := rfl
  have e2 : IntKind.i64.max = 9223372036854775807 := rfl
  simp [Lit.wf, e1, e2]; omega
theorem wfU8 {a : Nat} (h : a < 256) : (Lit.int .u8 a).wf = true := by
  have e1 : IntKind.u8.min = 0 := rfl
  have e2 : IntKind.u8.max = 255 := rfl
  simp [Lit.wf, e1, e2]; omega
theorem cellsI : Tryz.prog.cellsOf 3 = 1 := by kernel_rfl
theorem cellsU8 : Tryz.prog.cellsOf 5 = 1 := by kernel_rfl
theorem tp_key {t : Tp} (b : BdT t) : ∃ kl, keyOf Tryz.prog 144 (.agg #[.int .i64 t.a, .int .i64 t.b, .int .i64 t.c, .int .i64 t.d, .int .u8 t.m]) = some kl := by
  obtain ⟨b1, b2, b3, b4, b5, b6, b7⟩ := b
  have ht : ∀ w : World, DataW.Trod (fun _ : TypeId × Value => ()) Tryz.prog w 0 (fun _ => true) true 144 (.agg #[.int .i64 t.a, .int .i64 t.b, .int .i64 t.c, .int .i64 t.d, .int .u8 t.m]) (.agg [.lit (.int .i64 t.a), .lit (.int .i64 t.b), .lit (.int .i64 t.c), .lit (.int .i64 t.d), .lit (.int .u8 t.m)]) [] := fun w => by
    refine ⟨2, ?_⟩
    have := trod_struct_mk (enc := fun _ : TypeId × Value => ()) (w := w) (base := 0) (spare := fun _ => true) (held := true) (n := 1) (cs := [.int .i64 t.a, .int .i64 t.b, .int .i64 t.c, .int .i64 t.d, .int .u8 t.m]) (xs := [(.lit (.int .i64 t.a), []), (.lit (.int .i64 t.b), []), (.lit (.int .i64 t.c), []), (.lit (.int .i64 t.d), []), (.lit (.int .u8 t.m), [])]) Tryz.underlying144 (by rw [tp_cells]; rfl)
      (by simp [cellsI, cellsU8, DataW.trod, Tryz.underlying3, Tryz.underlying5, wfI64 (a := t.a) (by omega), wfI64 (a := t.b) (by omega), wfI64 (a := (t.c : Int)) (by omega), wfI64 (a := (t.d : Int)) (by omega), wfU8 b7])
    simpa [Value.cells] using this
  exact ⟨_, (keyOf_asKey tp_deep tp_wide tp_formed (ht (World.settled Tryz.prog default))).1⟩
theorem tv_inj {s t : Tp} (h : (.agg #[.int .i64 s.a, .int .i64 s.b, .int .i64 s.c, .int .i64 s.d, .int .u8 s.m] : Value) = .agg #[.int .i64 t.a, .int .i64 t.b, .int .i64 t.c, .int .i64 t.d, .int .u8 t.m]) : s = t := by
  obtain ⟨a, b, c, d, m⟩ := s
  obtain ⟨a', b', c', d', m'⟩ := t
  simp only [Value.agg.injEq] at h
  have : a = a' ∧ b = b' ∧ (c : Int) = c' ∧ (d : Int) = d' ∧ (m : Int) = m' := by simpa using h
  obtain ⟨h1, h2, h3, h4, h5⟩ := this
  simp only [Tp.mk.injEq]; omega
end Go.Proofs.YtfpmljgmfapoiaaGreat
