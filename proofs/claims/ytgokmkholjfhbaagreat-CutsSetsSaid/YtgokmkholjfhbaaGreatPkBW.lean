/-
  PkBW: CtZ, one behind the other (tools/pack.py).
-/
import Derived.Test.YtgokmkholjfhbaaGreatPkBU
import Derived.Test.YtgokmkholjfhbaaGreatPkBV
import Derived.Test.YtgokmkholjfhbaaGreatPkBP
import Derived.Test.YtgokmkholjfhbaaGreatPkAE
set_option linter.unusedVariables false
set_option linter.unusedSimpArgs false
namespace Go.Proofs.YtgokmkholjfhbaaGreat
open Go.RowKit
structure Gro (w0 W : World) (X : Nat) (S S0 : Nat → Prop) : Prop where
 grs : Grs w0 W X S0
 sin : ∀ k, S k → k < W.heap.size ∧ (S0 k ∨ w0.heap.size ≤ k)
def Lx (W : World) (X : Nat) (S : Nat → Prop) (u : Value) (L : List Ru) : Prop := SrcU W u L ∧ ∀ k, u.ownBlock = some k → k < W.heap.size ∧ k ≠ X ∧ ¬ S k
theorem Lx.on {W W' : World} {X : Nat} {S : Nat → Prop} {u : Value} {L : List Ru} (h : Lx W X S u L) (hb : Below W.heap.size W W') : Lx W' X S u L := ⟨h.1.keep hb, fun k e => ⟨Nat.lt_of_lt_of_le (h.2 k e).1 hb.size, (h.2 k e).2⟩⟩
theorem Lx.other {W W' : World} {X g : Nat} {S : Nat → Prop} {u : Value} {L : List Ru} (h : Lx W X S u L) (hg : W.grownBy W' (some g)) (hn : ¬ u.ownBlock = some g) : Lx W' X S u L := ⟨h.1.stay (fun k e hk => hg.block k hk (fun e' => hn (by rw [e]; exact e'))), fun k e => ⟨Nat.lt_of_lt_of_le (h.2 k e).1 hg.size, (h.2 k e).2⟩⟩
theorem Lx.outc {W W' : World} {X : Nat} {S : Nat → Prop} {u m : Value} {L L' : List Ru} (h : Lx W X S u L) (hX : X < W.heap.size) (hS : ∀ k, S k → k < W.heap.size) (hb : Below W.heap.size W W') (ho : Outc W W' u m L') : Lx W' X S m L' := ⟨ho.1, fun k e => by
 rcases ho.2 with h2 | h2
 ·rw [h2] at e; exact ⟨Nat.lt_of_lt_of_le (h.2 k e).1 hb.size, (h.2 k e).2⟩
 ·have := h2 k e; exact ⟨this.2, by omega, fun e2 => by have := hS k e2; omega⟩⟩
theorem Lx.row {W W' : World} {X : Nat} {S : Nat → Prop} {m : Value} {L' : List Ru} (hX : X < W.heap.size) (hS : ∀ k, S k → k < W.heap.size) (hr : RowU W' W.heap.size m L') : Lx W' X S m L' := ⟨hr.src, fun k e => by have := hr.lt k e; exact ⟨this.2, by omega, fun e2 => by have := hS k e2; omega⟩⟩
section
variable {w0 W W' : World} {X g : Nat} {c : Cf} {l' : List Ru} {S S0 : Nat → Prop}
theorem Gro.on (h : Gro w0 W X S S0) (hb : Below W.heap.size W W') : Gro w0 W' X S S0 := ⟨h.grs.then hb, fun k e => ⟨Nat.lt_of_lt_of_le (h.sin k e).1 hb.size, (h.sin k e).2⟩⟩
theorem Gro.new (h : Gro w0 W X S S0) (hg : W.grownBy W' (some g)) (hn : w0.heap.size ≤ g) : Gro w0 W' X S S0 :=
 ⟨⟨hg.os.trans h.grs.os, hg.tape.trans h.grs.tape, hg.output.trans h.grs.output, Nat.le_trans h.grs.size hg.size, fun k hk e1 e2 => by rw [hg.block k (Nat.lt_of_lt_of_le hk h.grs.size) (fun e' => by injection e' with e'; omega), h.grs.block k hk e1 e2]⟩, fun k e => ⟨Nat.lt_of_lt_of_le (h.sin k e).1 hg.size, (h.sin k e).2⟩⟩
theorem Gro.did (h : Gro w0 W X S S0) (hd : Did W W' X c l' S) : ∃ S2 : Nat → Prop, Eng W' X c l' S2 ∧ Gro w0 W' X S2 S0 ∧ (∀ u L, Lx W X S u L → Lx W' X S2 u L) ∧ Grs W W' X S ∧ ∀ k, S2 k → S k ∨ W.heap.size ≤ k := by
 obtain ⟨hE, hg⟩ := hd
 have hz := hg.size
 have hz0 := h.grs.size
 refine ⟨_, hE, ⟨⟨hg.os.trans h.grs.os, hg.tape.trans h.grs.tape, hg.output.trans h.grs.output, by omega, fun k hk e1 e2 => ?_⟩, fun k e => ?_⟩, fun u L hL => ⟨hL.1.stay fun k e hk => hg.block k hk (hL.2 k e).2.1 (hL.2 k e).2.2, fun k e => ?_⟩, hg, fun k e => ?_⟩
 ·rw [hg.block k (by omega) e1 (fun e3 => by rcases (h.sin k e3).2 with e4 | e4; (exact e2 e4); omega), h.grs.block k hk e1 e2]
 ·rcases e with e | e
  ·exact ⟨by have := (h.sin k e).1; omega, (h.sin k e).2⟩
  ·exact ⟨e.2, .inr (by omega)⟩
 ·have h1 := hL.2 k e
  refine ⟨by omega, h1.2.1, fun e2 => ?_⟩
  rcases e2 with e2 | e2
  ·exact h1.2.2 e2
  ·omega
 ·rcases e with e | e
  ·exact .inl e
  ·exact .inr e.1
end
theorem Eng.apart {w w' : World} {X g : Nat} {c : Cf} {l : List Ru} {S : Nat → Prop} (h : Eng w X c l S) (hg : w.grownBy w' (some g)) (hX : X ≠ g) (hS : ¬ S g) : Eng w' X c l S :=
 h.stay hg.size fun k hk e => hg.block k hk fun e2 => by
  injection e2 with e2
  subst e2
  rcases e with e | e
  ·exact hX e.symm
  ·exact hS e
theorem Lent.stay {w w' : World} {x : Value} {l : List Ru} {g : Nat} (h : Lent w x l g) (hb : w'.heap[g]? = w.heap[g]?) : Lent w' x l g := by
 refine ⟨h.1, h.2.1, ?_⟩
 rcases h.2.2 with h2 | ⟨g', cap, cur, e, hg, hh, q⟩
 ·exact .inl h2
 ·have e' := e
  injection e' with e1 _ _
  injection e1 with e1
  injection e1 with e1
  exact .inr ⟨g', cap, cur, e, hg, by rw [← e1, hb, e1]; exact hh, q⟩
theorem ins_bd2 {l : List Ru} {M p : Int} {R : Ru} (h : ∀ S ∈ l, BdR S) (b : BdR R) : ∀ S ∈ insL l M p R, BdR S := by
 unfold insL
 split
 ·intro S hS
  rcases putL_mem hS with e | e
  ·rw [e]; exact b
  ·exact h S e
 ·exact h
theorem del_same {l : List Ru} {x : Int} (h : delE l x ≠ 0) : delL l x = l := by
 unfold delE at h
 unfold delL
 by_cases e : 0 ≤ fnd l x
 ·rw [if_pos e] at h; exact absurd rfl h
 ·rw [if_neg e]
theorem wpList_load_mid {P : Program} {ops : Array Oper} {rest : List Oper} {op : Oper} {a : Act} {w : World} {Q : Exit → Act → World → Prop} (hgd : op.guard = none) (ty : TypeId) (x : Operand) (ho : op.op = .load ty x)
  (B o : Nat) (cs : Array Value) (hx : a.eval x = .pointer (some ⟨B, o, none⟩)) (h : w.rangeAt B o cs.toList) {d : TypeDesc} (hu : P.underlying ty = some d) (hd : d.isRow = true) (hi : (P.info? ty).map (·.size) = some cs.size)
  (hk : wpList P ops Q rest (a.put op.dst (.agg cs)) w) : wpList P ops Q (op :: rest) a w := by
 refine wpList_plain hgd fun K hK => ?_
 have hl := run_loadVar_mid (P := P) w B o ty cs.toList d h hu hd (by simpa using hi)
 unfold Oper.wp execOp
 simp only [ho, hx, Instr.loadAt, Instr.sureAddr, Sem.run_bind, Sem.run_pure, Result.andThen_ok, hl]
 exact hK _ _ hk
theorem infoXO : (Tryz.prog.info? 66).map (·.size) = some 21 := by kernel_rfl
theorem encO_one {o : Opp} {a : Option Addr} {n c : Nat} (h : o.u = .slice a n c) : (encO o).all (·.oneCell') = true := by
 unfold encO encU; rw [h]; rfl
def Ply (w0 W : World) (X : Nat) (c : Cf) (L : List Ru) (u : Value) (S S0 : Nat → Prop) : Prop := Eng W X c L S ∧ Lx W X S u L ∧ Gro w0 W X S S0
set_option maxHeartbeats 16000000 in
set_option maxRecDepth 20000 in
theorem playC (X : Nat) (c : Cf) (S0 : Nat → Prop) (sv hv : Value) (ops : List Opp) (hds : List Hd) (we w : World) (hE : Eng w X c [] S0) (hS0 : ∀ k, S0 k → we.heap.size ≤ k ∧ k < w.heap.size) (hc : BdC c) (hm64 : c.m ≤ 64) (hS : SrcO we sv ops) (hO : ∀ o ∈ ops, BdO we o ∧ o.l.length ≤ 2000) (hH : SrcH we hv hds) (hHo : ∀ h ∈ hds, OkH h) (hn1 : ops.length ≤ 2000) (hn2 : hds.length ≤ 2000)
  (hB : Below we.heap.size we w) (hX : we.heap.size ≤ X) :
  Calls Tryz.prog 14 #[.agg #[.func (.func 23) #[] #[], .func (.func 24) #[] #[], .int .i64 0, .func (.func 10) #[] #[]], .iface 31 (.pointer (some ⟨X, 0, none⟩)), .agg #[.int .i64 c.m, .int .i64 c.a, .int .i64 c.p, .int .i64 c.g, .int .i64 c.t, .int .i64 c.b, .int .i64 c.d], sv, hv] w fun e w' => e = .returned (.bool true) ∧ Grs w w' X S0 := by
 have HXw : Hid (X < w.heap.size) := hE.lt
 have HXe : Hid (we.heap.size ≤ X) := hX
 have HS0 : Hid (∀ k, S0 k → we.heap.size ≤ k ∧ k < w.heap.size) := hS0
 have HS : Hid (SrcO we sv ops) := hS
 have HO : Hid (∀ o ∈ ops, BdO we o ∧ o.l.length ≤ 2000) := hO
 have HH : Hid (SrcH we hv hds) := hH
 have HHo : Hid (∀ h ∈ hds, OkH h) := hHo
 have HM64 : Hid (c.m ≤ 64) := hm64
 obtain ⟨ads, caps, hsv, _⟩ := hS
 obtain ⟨adh, caph, hhv, _⟩ := hH
 obtain ⟨n, hn⟩ : ∃ n, n = ops.length := ⟨_, rfl⟩
 obtain ⟨nh, hnh⟩ : ∃ n, n = hds.length := ⟨_, rfl⟩
 rw [← hn] at hsv hn1
 rw [← hnh] at hhv hn2
 have Hn : Hid (n = ops.length) := hn
 have Hnh : Hid (nh = hds.length) := hnh
 subst hsv hhv
 obtain ⟨w0, hw0⟩ : ∃ w0, w0 = (w.alloc (.cells #[.func (.func 23) #[] #[], .func (.func 24) #[] #[], .int .i64 0, .func (.func 10) #[] #[]] 52)).alloc (.cells #[.int .i64 c.m, .int .i64 c.a, .int .i64 c.p, .int .i64 c.g, .int .i64 c.t, .int .i64 c.b, .int .i64 c.d] 24) := ⟨_, rfl⟩
 have hb0 : Below w.heap.size w w0 := by rw [hw0]; exact ((Below.refl _ _).alloc (Nat.le_refl _) _).alloc (by simp) _
 have Kk0 : Hid (w0.heap[w.heap.size]? = some (.cells #[.func (.func 23) #[] #[], .func (.func 24) #[] #[], .int .i64 0, .func (.func 10) #[] #[]] 52 (0, 0))) := by rw [hw0]; exact blk_alloc (blk_new w _) _
 have Kc0 : Hid (w0.heap[w.heap.size + 1]? = some (.cells #[.int .i64 c.m, .int .i64 c.a, .int .i64 c.p, .int .i64 c.g, .int .i64 c.t, .int .i64 c.b, .int .i64 c.d] 24 (0, 0))) := by
  have := blk_new (w.alloc (.cells #[.func (.func 23) #[] #[], .func (.func 24) #[] #[], .int .i64 0, .func (.func 10) #[] #[]] 52)) (.cells #[.int .i64 c.m, .int .i64 c.a, .int .i64 c.p, .int .i64 c.g, .int .i64 c.t, .int .i64 c.b, .int .i64 c.d] 24)
  rw [← hw0] at this
  show _ = _
  simpa using this
 have HP0 : Hid (Ply w0 w0 X c [] (.slice none 0 0) S0 S0) := ⟨hE.on hb0, ⟨(RowU.nil _ 0).src, by simp [Value.ownBlock]⟩, ⟨Grs.of X S0 (Below.refl _ _), fun k e => ⟨Nat.lt_of_lt_of_le (hS0 k e).2 hb0.size, .inl e⟩⟩⟩
 have HB0 : Hid (Below w.heap.size w w0) := hb0
 have HB0e : Hid (Below we.heap.size we w0) := hB.trans (hb0.mono hB.size)
 have hw0s : (w.alloc (.cells #[.func (.func 23) #[] #[], .func (.func 24) #[] #[], .int .i64 0, .func (.func 10) #[] #[]] 52)).alloc (.cells #[.int .i64 c.m, .int .i64 c.a, .int .i64 c.p, .int .i64 c.g, .int .i64 c.t, .int .i64 c.b, .int .i64 c.d] 24) = w0 := hw0.symm
 have Hw0s : Hid _ := hw0s
 clear hw0 hw0s hb0 hE hS0 hB hX hn hnh hO hHo hm64
 have m1 := meth_Insert (some ⟨X, 0, none⟩)
 have m2 := meth_Delete (some ⟨X, 0, none⟩)
 have m3 := meth_Set (some ⟨X, 0, none⟩)
 go_enter Tryz.func14, Tryz.ntmps14
 go_wp2_with (fail)
 have hw0s := Hw0s.out
 try simp only [hw0s, World.size_alloc]
 clear hw0s Hw0s
 go_loopw [11, 12] (fun vl vi wr => ∃ (k : Nat) (L : List Ru) (u : Value) (S : Nat → Prop), k ≤ n ∧ u = vl ∧ vi = .int .i64 k ∧ Hid (Ply w0 wr X c L u S S0)) (fun _ vi _ => n - (intOf vi).toNat)
 case atStart => exact ⟨0, _, _, _, Nat.zero_le _, rfl, rfl, HP0⟩
 case round =>
  obtain ⟨k, L, u, S, hk, rfl, rfl, HP⟩ := hrel
  by_cases hlt : k < n
  ·have hlt' : k < ops.length := by rw [← Hn.out]; exact hlt
   have hlti : (k : Int) < (n : Int) := by omega
   have HBer : Hid (Below we.heap.size we wr) := (HP.out.2.2).grs.below HB0e.out HB0e.out.size HXe.out (fun k e => (HS0.out k e).1)
   obtain ⟨g, off, rfl, hrg⟩ := HS.out.rng wr HBer.out k hlt'
   have hbo := HO.out _ (List.getElem_mem hlt')
   generalize ops[k]'hlt' = o at hrg hbo
   have HBo : Hid (BdO we o) := hbo.1
   have HOl : Hid (o.l.length ≤ 200000) := Nat.le_trans hbo.2 (by decide)
   obtain ⟨oa, oc, hou, _, _⟩ := id hbo.1.2.2.2.2.2.1
   obtain ⟨on, hon⟩ : ∃ n, n = o.l.length := ⟨_, rfl⟩
   rw [← hon] at hou
   have HOu : Hid (o.u = .slice oa on oc) := hou
   obtain ⟨A, hA⟩ : ∃ A, A = (encO o).toArray := ⟨_, rfl⟩
   have hAsz : (Tryz.prog.info? 66).map (·.size) = some A.size := by rw [hA]; exact infoXO
   have hA1 : A.toList.all (·.oneCell') = true := by rw [hA]; exact encO_one HOu.out
   have hAr : wr.rangeAt g (off + k * 21) A.toList := by rw [hA]; simpa using hrg
   have hAn : A.size = 21 := by rw [hA]; rfl
   have HA : Hid (A = #[.int .i64 o.k, .int .i64 o.p, .int .i64 o.i, .int .i64 o.r.i, .int .u32 o.r.s, .int .i64 o.r.sl, .int .u32 o.r.d, .int .i64 o.r.dl, .int .u16 o.r.p.1, .int .u16 o.r.p.2, .int .u16 o.r.q.1, .int .u16 o.r.q.2, .int .u8 o.r.m.1, .int .u8 o.r.m.2, .int .i64 o.r.act, .int .u32 o.h.s, .int .u32 o.h.d, .int .u16 o.h.p, .int .u16 o.h.q, .int .u8 o.h.r, .slice oa on oc]) := by show _ = _; rw [hA, ← HOu.out]; rfl
   obtain ⟨au, cu, hu, _, _⟩ := id HP.out.2.1.1
   obtain ⟨nu, hnu⟩ : ∃ n, n = L.length := ⟨_, rfl⟩
   rw [← hnu] at hu
   subst hu
   have HLo : Hid (OkN L) := HP.out.1.ok
   have HLf : Hid (L.length ≤ 64) := HLo.out.few
   have HLb : Hid (∀ R ∈ L, BdR R) := HP.out.1.bd
   have HLown : Hid (∀ k, (Value.slice au nu cu).ownBlock = some k → k < wr.heap.size) := fun k e => (HP.out.2.1.2 k e).1
   have HXr : Hid (X < wr.heap.size) := HP.out.1.lt
   have HSr : Hid (∀ k, S k → k < wr.heap.size) := fun k e => (HP.out.2.2.sin k e).1
   have Hszr : Hid (w0.heap.size ≤ wr.heap.size) := HP.out.2.2.grs.size
   have HAr : Hid _ := hAr
   have HAs : Hid _ := hAsz
   have HA1 : Hid _ := hA1
   have HAn : Hid _ := hAn
   have HZ : Hid ((wr.alloc (.cells #[.int .i64 0, .int .i64 0, .int .i64 0, .int .i64 0, .int .u32 0, .int .i64 0, .int .u32 0, .int .i64 0, .int .u16 0, .int .u16 0, .int .u16 0, .int .u16 0, .int .u8 0, .int .u8 0, .int .i64 0, .int .u32 0, .int .u32 0, .int .u16 0, .int .u16 0, .int .u8 0, .slice none 0 0] 66)).heap[wr.heap.size]? = some (.cells #[.int .i64 0, .int .i64 0, .int .i64 0, .int .i64 0, .int .u32 0, .int .i64 0, .int .u32 0, .int .i64 0, .int .u16 0, .int .u16 0, .int .u16 0, .int .u16 0, .int .u8 0, .int .u8 0, .int .i64 0, .int .u32 0, .int .u32 0, .int .u16 0, .int .u16 0, .int .u8 0, .slice none 0 0] 66 (0, 0))) := blk_new wr _
   clear hrg hbo hou hon hnu hA hAsz hA1 hAr hAn
   go_upto_region 6 with (first | (refine wpList_load_mid rfl 66 (.tmp 27) rfl g (off + k * 21) A rfl HAr.out Tryz.underlying66 rfl HAs.out ?_) | (refine wpList_store_blk rfl 66 (.tmp 13) (.tmp 28) rfl wr.heap.size 0 A A rfl rfl 66 _ HZ.out (by rw [HAn.out]; exact Nat.le_refl _) (by rw [HAn.out]; simp) HAs.out HA1.out ?_; intro W1 hw1 ho1))
   try simp only [Act.put]
   have hbW : Below wr.heap.size wr W1 := ((Below.refl _ _).alloc (Nat.le_refl _) _).trans (ho1.below (Nat.le_refl _))
   have KO1 : Hid (W1.heap[wr.heap.size]? = some (.cells #[.int .i64 o.k, .int .i64 o.p, .int .i64 o.i, .int .i64 o.r.i, .int .u32 o.r.s, .int .i64 o.r.sl, .int .u32 o.r.d, .int .i64 o.r.dl, .int .u16 o.r.p.1, .int .u16 o.r.p.2, .int .u16 o.r.q.1, .int .u16 o.r.q.2, .int .u8 o.r.m.1, .int .u8 o.r.m.2, .int .i64 o.r.act, .int .u32 o.h.s, .int .u32 o.h.d, .int .u16 o.h.p, .int .u16 o.h.q, .int .u8 o.h.r, .slice oa on oc] 66 (0, 0))) := by rw [← HA.out]; exact hw1
   have HE1 : Hid (Eng W1 X c L S) := HP.out.1.on hbW
   have HG1 : Hid (Gro w0 W1 X S S0) := HP.out.2.2.on hbW
   have HL1 : Hid (Lx W1 X S (.slice au nu cu) L) := HP.out.2.1.on hbW
   have HBe1 : Hid (Below we.heap.size we W1) := HBer.out.trans (hbW.mono HBer.out.size)
   have HszW1 : Hid (W1.heap.size = wr.heap.size + 1) := by show _ = _; rw [ho1.size]; simp
   have Hy0 : Hid (W1.cell? ⟨wr.heap.size, 0, none⟩ = some (.int .i64 o.k)) := blk_cell KO1.out rfl
   clear hbW hw1 ho1 HZ HAr HAs HA1 HAn HA HP HBer
   generalize hAA : Value.agg A = VA
   clear hAA
   have y0 := Hy0.out
   by_cases h1 : o.k = 1
   ·rw [h1] at y0
    as_aux_lemma =>
     have hIn := insertE X c L S o.p o.r W1 HE1.out HBo.out.2.2.2.1 hc HM64.out
     have y1 : W1.cell? ⟨wr.heap.size, 1, none⟩ = some (.int .i64 o.p) := blk_cell KO1.out rfl
     have y2 : W1.cell? ⟨wr.heap.size, 2, none⟩ = some (.int .i64 o.i) := blk_cell KO1.out rfl
     have y3 : W1.cell? ⟨wr.heap.size, 3, none⟩ = some (.int .i64 o.r.i) := blk_cell KO1.out rfl
     have y4 : W1.cell? ⟨wr.heap.size, 4, none⟩ = some (.int .u32 o.r.s) := blk_cell KO1.out rfl
     have y5 : W1.cell? ⟨wr.heap.size, 5, none⟩ = some (.int .i64 o.r.sl) := blk_cell KO1.out rfl
     have y6 : W1.cell? ⟨wr.heap.size, 6, none⟩ = some (.int .u32 o.r.d) := blk_cell KO1.out rfl
     have y7 : W1.cell? ⟨wr.heap.size, 7, none⟩ = some (.int .i64 o.r.dl) := blk_cell KO1.out rfl
     have y8 : W1.cell? ⟨wr.heap.size, 8, none⟩ = some (.int .u16 o.r.p.1) := blk_cell KO1.out rfl
     have y9 : W1.cell? ⟨wr.heap.size, 9, none⟩ = some (.int .u16 o.r.p.2) := blk_cell KO1.out rfl
     have y10 : W1.cell? ⟨wr.heap.size, 10, none⟩ = some (.int .u16 o.r.q.1) := blk_cell KO1.out rfl
     have y11 : W1.cell? ⟨wr.heap.size, 11, none⟩ = some (.int .u16 o.r.q.2) := blk_cell KO1.out rfl
     have y12 : W1.cell? ⟨wr.heap.size, 12, none⟩ = some (.int .u8 o.r.m.1) := blk_cell KO1.out rfl
     have y13 : W1.cell? ⟨wr.heap.size, 13, none⟩ = some (.int .u8 o.r.m.2) := blk_cell KO1.out rfl
     have y14 : W1.cell? ⟨wr.heap.size, 14, none⟩ = some (.int .i64 o.r.act) := blk_cell KO1.out rfl
     go_wp2_with (go_at_call 18; fail)
     refine (hIn).mono ?_
     rintro e W2 ⟨rfl, hd2⟩
     obtain ⟨S2, hE2, hG2, hL2, hg2, hs2⟩ := HG1.out.did hd2
     have HE2 : Hid (Eng W2 X c _ S2) := hE2
     have HG2 : Hid (Gro w0 W2 X S2 S0) := hG2
     have HL2 : Hid (Lx W2 X S2 (.slice au nu cu) L) := hL2 _ _ HL1.out
     have KO2 : Hid (W2.heap[wr.heap.size]? = some (.cells #[.int .i64 o.k, .int .i64 o.p, .int .i64 o.i, .int .i64 o.r.i, .int .u32 o.r.s, .int .i64 o.r.sl, .int .u32 o.r.d, .int .i64 o.r.dl, .int .u16 o.r.p.1, .int .u16 o.r.p.2, .int .u16 o.r.q.1, .int .u16 o.r.q.2, .int .u8 o.r.m.1, .int .u8 o.r.m.2, .int .i64 o.r.act, .int .u32 o.h.s, .int .u32 o.h.d, .int .u16 o.h.p, .int .u16 o.h.q, .int .u8 o.h.r, .slice oa on oc] 66 (0, 0))) := (hg2.block _ (blk_lt KO1.out) (by have := HXr.out; omega) (fun e => by have := HSr.out _ e; omega)).trans KO1.out
     clear hE2 hG2 hL2 hg2 hs2 hIn HE1 HG1 HL1 KO1 y1 y2 y3 y4 y5 y6 y7 y8 y9 y10 y11 y12 y13 y14
     have Kk : W2.heap[w.heap.size]? = some (.cells #[.func (.func 23) #[] #[], .func (.func 24) #[] #[], .int .i64 0, .func (.func 10) #[] #[]] 52 (0, 0)) := (HG2.out.grs.block _ (blk_lt Kk0.out) (by have := HXw.out; omega) (fun e => by have := HS0.out _ e; omega)).trans Kk0.out
     have Kc : W2.heap[w.heap.size + 1]? = some (.cells #[.int .i64 c.m, .int .i64 c.a, .int .i64 c.p, .int .i64 c.g, .int .i64 c.t, .int .i64 c.b, .int .i64 c.d] 24 (0, 0)) := (HG2.out.grs.block _ (blk_lt Kc0.out) (by have := HXw.out; omega) (fun e => by have := HS0.out _ e; omega)).trans Kc0.out
     have q0 : W2.cell? ⟨w.heap.size + 1, 0, none⟩ = some (.int .i64 c.m) := blk_cell Kc rfl
     have y1 : W2.cell? ⟨wr.heap.size, 1, none⟩ = some (.int .i64 o.p) := blk_cell KO2.out rfl
     have y2 : W2.cell? ⟨wr.heap.size, 2, none⟩ = some (.int .i64 o.i) := blk_cell KO2.out rfl
     have y3 : W2.cell? ⟨wr.heap.size, 3, none⟩ = some (.int .i64 o.r.i) := blk_cell KO2.out rfl
     have y4 : W2.cell? ⟨wr.heap.size, 4, none⟩ = some (.int .u32 o.r.s) := blk_cell KO2.out rfl
     have y5 : W2.cell? ⟨wr.heap.size, 5, none⟩ = some (.int .i64 o.r.sl) := blk_cell KO2.out rfl
     have y6 : W2.cell? ⟨wr.heap.size, 6, none⟩ = some (.int .u32 o.r.d) := blk_cell KO2.out rfl
     have y7 : W2.cell? ⟨wr.heap.size, 7, none⟩ = some (.int .i64 o.r.dl) := blk_cell KO2.out rfl
     have y8 : W2.cell? ⟨wr.heap.size, 8, none⟩ = some (.int .u16 o.r.p.1) := blk_cell KO2.out rfl
     have y9 : W2.cell? ⟨wr.heap.size, 9, none⟩ = some (.int .u16 o.r.p.2) := blk_cell KO2.out rfl
     have y10 : W2.cell? ⟨wr.heap.size, 10, none⟩ = some (.int .u16 o.r.q.1) := blk_cell KO2.out rfl
     have y11 : W2.cell? ⟨wr.heap.size, 11, none⟩ = some (.int .u16 o.r.q.2) := blk_cell KO2.out rfl
     have y12 : W2.cell? ⟨wr.heap.size, 12, none⟩ = some (.int .u8 o.r.m.1) := blk_cell KO2.out rfl
     have y13 : W2.cell? ⟨wr.heap.size, 13, none⟩ = some (.int .u8 o.r.m.2) := blk_cell KO2.out rfl
     have y14 : W2.cell? ⟨wr.heap.size, 14, none⟩ = some (.int .i64 o.r.act) := blk_cell KO2.out rfl
     have hRi := rinsC (.slice au nu cu) L c.m o.p o.r W2 HL2.out.1 (Nat.le_trans HLf.out (by decide)) HBo.out.2.2.2.1
     clear Kk Kc
     go_wp2_with (go_at_call 25; fail)
     refine hRi.mono ?_
     rintro e W3 ⟨v3, rfl, ho3, hb3⟩
     have HX2 : Hid (X < W2.heap.size) := HE2.out.lt
     obtain ⟨am, cm, hmv, _, _⟩ := id ho3.1
     obtain ⟨nm, hnm⟩ : ∃ n, n = (insL L c.m o.p o.r).length := ⟨_, rfl⟩
     rw [← hnm] at hmv
     subst hmv
     clear hnm
     have HE3 : Hid (Eng W3 X c _ S2) := HE2.out.on hb3
     have HG3 : Hid (Gro w0 W3 X S2 S0) := HG2.out.on hb3
     have HL3 : Hid (Lx W3 X S2 (.slice au nu cu) L) := HL2.out.on hb3
     have HM3 : Hid (Lx W3 X S2 (.slice am nm cm) (insL L c.m o.p o.r)) := HL2.out.outc HX2.out (fun k e => (HG2.out.sin k e).1) hb3 ho3
     clear hRi ho3 hb3 q0 HE2 HG2 HL2 KO2 HX2 y1 y2 y3 y4 y5 y6 y7 y8 y9 y10 y11 y12 y13 y14
     have Kk : W3.heap[w.heap.size]? = some (.cells #[.func (.func 23) #[] #[], .func (.func 24) #[] #[], .int .i64 0, .func (.func 10) #[] #[]] 52 (0, 0)) := (HG3.out.grs.block _ (blk_lt Kk0.out) (by have := HXw.out; omega) (fun e => by have := HS0.out _ e; omega)).trans Kk0.out
     have Kc : W3.heap[w.heap.size + 1]? = some (.cells #[.int .i64 c.m, .int .i64 c.a, .int .i64 c.p, .int .i64 c.g, .int .i64 c.t, .int .i64 c.b, .int .i64 c.d] 24 (0, 0)) := (HG3.out.grs.block _ (blk_lt Kc0.out) (by have := HXw.out; omega) (fun e => by have := HS0.out _ e; omega)).trans Kc0.out
     obtain ⟨k0, k1, k2, k3⟩ := blk4 Kk
     obtain ⟨q0, q1, q2, q3, q4, q5, q6⟩ := blk7 Kc
     have lk := blk_lt Kk
     have lc := blk_lt Kc
     have hRo := roomC c (insL L c.m o.p o.r) (.slice am nm cm) (insE L c.m o.p o.r) W3 HM3.out.1 (ins_bd2 HLb.out HBo.out.2.2.2.1)
     clear Kk Kc
     go_wp2_with (go_at_call 26; fail)
     refine hRo.mono ?_
     rintro e W4 ⟨rfl, hb4⟩
     have HEt : Hid (Eng W4 X c (insL L c.m o.p o.r) S2) := HE3.out.on hb4
     have HGt : Hid (Gro w0 W4 X S2 S0) := HG3.out.on hb4
     have HMt : Hid (insE L c.m o.p o.r = 0 → Lx W4 X S2 (.slice am nm cm) (insL L c.m o.p o.r)) := fun e => HM3.out.on hb4
     have HUt : Hid (insE L c.m o.p o.r ≠ 0 → Lx W4 X S2 (.slice au nu cu) (insL L c.m o.p o.r)) := fun e => by rw [show insL L c.m o.p o.r = L from if_neg e]; exact HL3.out.on hb4
     clear hRo hb4 HE3 HG3 HL3 HM3 k0 k1 k2 k3 q0 q1 q2 q3 q4 q5 q6 lk lc
     generalize insL L c.m o.p o.r = Lp at *
     generalize insE L c.m o.p o.r = E at *
     by_cases hE0 : E = 0
     ·subst hE0
      have HLt : Hid (Lx W4 X S2 (.slice am nm cm) Lp) := HMt.out rfl
      clear HMt HUt
      as_aux_lemma =>
       go_wp2_with (fail)
       go_loopw [18] (fun vn wr => ∃ j : Nat, j ≤ nh ∧ vn = .int .i64 j ∧ Hid (Below W4.heap.size W4 wr)) (fun vn _ => nh - (intOf vn).toNat)
       case atStart => exact ⟨0, Nat.zero_le _, rfl, Below.refl _ _⟩
       case round =>
        obtain ⟨j, hj, rfl, HBj⟩ := hrel
        have HGj : Hid (Gro w0 wr X S2 S0) := HGt.out.on HBj.out
        by_cases hlj : j < nh
        ·have hlj' : j < hds.length := by rw [← Hnh.out]; exact hlj
         have hlji : (j : Int) < (nh : Int) := by omega
         have HBe2 : Below we.heap.size we wr := HGj.out.grs.below HB0e.out HB0e.out.size HXe.out (fun k e => (HS0.out k e).1)
         obtain ⟨gh, oh, rfl, hrg⟩ := HH.out.rng wr HBe2 j hlj'
         have ohd := HHo.out _ (List.getElem_mem hlj')
         generalize hds[j]'hlj' = hd at hrg ohd
         have x0 : wr.cell? ⟨gh, oh + j * 5, none⟩ = some (.int .u32 hd.s) := hrg 0 _ rfl
         have x1 : wr.cell? ⟨gh, oh + j * 5 + 1, none⟩ = some (.int .u32 hd.d) := hrg 1 _ rfl
         have x2 : wr.cell? ⟨gh, oh + j * 5 + 2, none⟩ = some (.int .u16 hd.p) := hrg 2 _ rfl
         have x3 : wr.cell? ⟨gh, oh + j * 5 + 3, none⟩ = some (.int .u16 hd.q) := hrg 3 _ rfl
         have x4 : wr.cell? ⟨gh, oh + j * 5 + 4, none⟩ = some (.int .u8 hd.r) := hrg 4 _ rfl
         have Kk : wr.heap[w.heap.size]? = some (.cells #[.func (.func 23) #[] #[], .func (.func 24) #[] #[], .int .i64 0, .func (.func 10) #[] #[]] 52 (0, 0)) := (HGj.out.grs.block _ (blk_lt Kk0.out) (by have := HXw.out; omega) (fun e => by have := HS0.out _ e; omega)).trans Kk0.out
         have Kc : wr.heap[w.heap.size + 1]? = some (.cells #[.int .i64 c.m, .int .i64 c.a, .int .i64 c.p, .int .i64 c.g, .int .i64 c.t, .int .i64 c.b, .int .i64 c.d] 24 (0, 0)) := (HGj.out.grs.block _ (blk_lt Kc0.out) (by have := HXw.out; omega) (fun e => by have := HS0.out _ e; omega)).trans Kc0.out
         obtain ⟨k0, k1, k2, k3⟩ := blk4 Kk
         obtain ⟨q0, q1, q2, q3, q4, q5, q6⟩ := blk7 Kc
         have lk := blk_lt Kk
         have lc := blk_lt Kc
         have lx := World.block_lt_of_cell? wr _ x0
         have hAs : ∀ W9, Below wr.heap.size wr W9 → Calls Tryz.prog 32 #[.agg #[.func (.func 23) #[] #[], .func (.func 24) #[] #[], .int .i64 0, .func (.func 10) #[] #[]], .iface 31 (.pointer (some ⟨X, 0, none⟩)), .agg #[.int .i64 c.m, .int .i64 c.a, .int .i64 c.p, .int .i64 c.g, .int .i64 c.t, .int .i64 c.b, .int .i64 c.d], (.slice am nm cm), .agg #[.int .u32 hd.s, .int .u32 hd.d, .int .u16 hd.p, .int .u16 hd.q, .int .u8 hd.r]] W9 fun e w9 => e = .returned (.bool true) ∧ Below W9.heap.size W9 w9 := fun W9 hb => askedC X c Lp S2 (.slice am nm cm) hd W9 (HEt.out.on (HBj.out.trans (hb.mono HBj.out.size))) (HLt.out.1.keep (HBj.out.trans (hb.mono HBj.out.size))) ohd
         clear hrg HBe2 Kk Kc
         go_upto_region 33 with (fail)
         have kne : Nonempty (Kin (wr)) := ⟨⟨_, Below.refl _ _⟩⟩
         have kc0 : ∀ y : Kin (wr), y.val.cell? ⟨w.heap.size, 0, none⟩ = some (.func (.func 23) #[] #[]) := kcL
         have kc1 : ∀ y : Kin (wr), y.val.cell? ⟨w.heap.size, 1, none⟩ = some (.func (.func 24) #[] #[]) := kcL
         have kc2 : ∀ y : Kin (wr), y.val.cell? ⟨w.heap.size, 2, none⟩ = some (.int .i64 0) := kcL
         have kc3 : ∀ y : Kin (wr), y.val.cell? ⟨w.heap.size, 3, none⟩ = some (.func (.func 10) #[] #[]) := kcL
         have kc4 : ∀ y : Kin (wr), y.val.cell? ⟨w.heap.size + 1, 0, none⟩ = some (.int .i64 c.m) := kcL
         have kc5 : ∀ y : Kin (wr), y.val.cell? ⟨w.heap.size + 1, 1, none⟩ = some (.int .i64 c.a) := kcL
         have kc6 : ∀ y : Kin (wr), y.val.cell? ⟨w.heap.size + 1, 2, none⟩ = some (.int .i64 c.p) := kcL
         have kc7 : ∀ y : Kin (wr), y.val.cell? ⟨w.heap.size + 1, 3, none⟩ = some (.int .i64 c.g) := kcL
         have kc8 : ∀ y : Kin (wr), y.val.cell? ⟨w.heap.size + 1, 4, none⟩ = some (.int .i64 c.t) := kcL
         have kc9 : ∀ y : Kin (wr), y.val.cell? ⟨w.heap.size + 1, 5, none⟩ = some (.int .i64 c.b) := kcL
         have kc10 : ∀ y : Kin (wr), y.val.cell? ⟨w.heap.size + 1, 6, none⟩ = some (.int .i64 c.d) := kcL
         have kc11 : ∀ y : Kin (wr), y.val.cell? ⟨gh, oh + j * 5, none⟩ = some (.int .u32 hd.s) := kcL
         have kc12 : ∀ y : Kin (wr), y.val.cell? ⟨gh, oh + j * 5 + 1, none⟩ = some (.int .u32 hd.d) := kcL
         have kc13 : ∀ y : Kin (wr), y.val.cell? ⟨gh, oh + j * 5 + 2, none⟩ = some (.int .u16 hd.p) := kcL
         have kc14 : ∀ y : Kin (wr), y.val.cell? ⟨gh, oh + j * 5 + 3, none⟩ = some (.int .u16 hd.q) := kcL
         have kc15 : ∀ y : Kin (wr), y.val.cell? ⟨gh, oh + j * 5 + 4, none⟩ = some (.int .u8 hd.r) := kcL
         refine wp_region_kin (wr) (Below.refl _ _) (by kernel_rfl) (by kernel_rfl) ?_
         repeat (go_big_quiet_step (first | (go_at_call 32; exact kin_call (hAs _ (Kin.is _)))))
         refine wpQuiet_nil ?_
         rintro wq ⟨⟨xq, hxq⟩, hyq⟩
         have hq : Below (wr).heap.size (wr) wq := by rw [hyq]; exact hxq
         clear hyq hxq xq
         clear kne kc0 kc1 kc2 kc3 kc4 kc5 kc6 kc7 kc8 kc9 kc10 kc11 kc12 kc13 kc14 kc15
         obtain ⟨hcq, hfq⟩ := bcell hq
         have hzq := hq.size
         try simp at hzq
         have HBk : Hid (Below W4.heap.size W4 wq) := HBj.out.trans (hq.mono HBj.out.size)
         clear hq hcq hfq hzq hAs x0 x1 x2 x3 x4 k0 k1 k2 k3 q0 q1 q2 q3 q4 q5 q6 lk lc lx
         go_wp2_with (fail)
         go_roundw
         case rel => exact ⟨j + 1, by omega, by go_num, HBk.out⟩
         case measure => simp [intOf]; omega
        ·obtain rfl : j = nh := by omega
         have hnj : ¬ (j : Int) < (j : Int) := by omega
         have HPn : Hid (Ply w0 wr X c Lp (.slice am nm cm) S2 S0) := ⟨HEt.out.on HBj.out, HLt.out.on HBj.out, HGj.out⟩
         clear HEt HLt HGt HBj HGj
         go_wp2_with (fail)
         go_roundw
         case rel => exact ⟨k + 1, Lp, (.slice am nm cm), S2, by omega, rfl, by go_num, HPn.out⟩
         case measure => simp [intOf]; omega
     ·have hE1 : (E == 0) = false := by simpa using hE0
      have HLt : Hid (Lx W4 X S2 (.slice au nu cu) Lp) := HUt.out hE0
      clear HMt HUt
      as_aux_lemma =>
       go_wp2_with (fail)
       go_loopw [18] (fun vn wr => ∃ j : Nat, j ≤ nh ∧ vn = .int .i64 j ∧ Hid (Below W4.heap.size W4 wr)) (fun vn _ => nh - (intOf vn).toNat)
       case atStart => exact ⟨0, Nat.zero_le _, rfl, Below.refl _ _⟩
       case round =>
        obtain ⟨j, hj, rfl, HBj⟩ := hrel
        have HGj : Hid (Gro w0 wr X S2 S0) := HGt.out.on HBj.out
        by_cases hlj : j < nh
        ·have hlj' : j < hds.length := by rw [← Hnh.out]; exact hlj
         have hlji : (j : Int) < (nh : Int) := by omega
         have HBe2 : Below we.heap.size we wr := HGj.out.grs.below HB0e.out HB0e.out.size HXe.out (fun k e => (HS0.out k e).1)
         obtain ⟨gh, oh, rfl, hrg⟩ := HH.out.rng wr HBe2 j hlj'
         have ohd := HHo.out _ (List.getElem_mem hlj')
         generalize hds[j]'hlj' = hd at hrg ohd
         have x0 : wr.cell? ⟨gh, oh + j * 5, none⟩ = some (.int .u32 hd.s) := hrg 0 _ rfl
         have x1 : wr.cell? ⟨gh, oh + j * 5 + 1, none⟩ = some (.int .u32 hd.d) := hrg 1 _ rfl
         have x2 : wr.cell? ⟨gh, oh + j * 5 + 2, none⟩ = some (.int .u16 hd.p) := hrg 2 _ rfl
         have x3 : wr.cell? ⟨gh, oh + j * 5 + 3, none⟩ = some (.int .u16 hd.q) := hrg 3 _ rfl
         have x4 : wr.cell? ⟨gh, oh + j * 5 + 4, none⟩ = some (.int .u8 hd.r) := hrg 4 _ rfl
         have Kk : wr.heap[w.heap.size]? = some (.cells #[.func (.func 23) #[] #[], .func (.func 24) #[] #[], .int .i64 0, .func (.func 10) #[] #[]] 52 (0, 0)) := (HGj.out.grs.block _ (blk_lt Kk0.out) (by have := HXw.out; omega) (fun e => by have := HS0.out _ e; omega)).trans Kk0.out
         have Kc : wr.heap[w.heap.size + 1]? = some (.cells #[.int .i64 c.m, .int .i64 c.a, .int .i64 c.p, .int .i64 c.g, .int .i64 c.t, .int .i64 c.b, .int .i64 c.d] 24 (0, 0)) := (HGj.out.grs.block _ (blk_lt Kc0.out) (by have := HXw.out; omega) (fun e => by have := HS0.out _ e; omega)).trans Kc0.out
         obtain ⟨k0, k1, k2, k3⟩ := blk4 Kk
         obtain ⟨q0, q1, q2, q3, q4, q5, q6⟩ := blk7 Kc
         have lk := blk_lt Kk
         have lc := blk_lt Kc
         have lx := World.block_lt_of_cell? wr _ x0
         have hAs : ∀ W9, Below wr.heap.size wr W9 → Calls Tryz.prog 32 #[.agg #[.func (.func 23) #[] #[], .func (.func 24) #[] #[], .int .i64 0, .func (.func 10) #[] #[]], .iface 31 (.pointer (some ⟨X, 0, none⟩)), .agg #[.int .i64 c.m, .int .i64 c.a, .int .i64 c.p, .int .i64 c.g, .int .i64 c.t, .int .i64 c.b, .int .i64 c.d], (.slice au nu cu), .agg #[.int .u32 hd.s, .int .u32 hd.d, .int .u16 hd.p, .int .u16 hd.q, .int .u8 hd.r]] W9 fun e w9 => e = .returned (.bool true) ∧ Below W9.heap.size W9 w9 := fun W9 hb => askedC X c Lp S2 (.slice au nu cu) hd W9 (HEt.out.on (HBj.out.trans (hb.mono HBj.out.size))) (HLt.out.1.keep (HBj.out.trans (hb.mono HBj.out.size))) ohd
         clear hrg HBe2 Kk Kc
         go_upto_region 33 with (fail)
         have kne : Nonempty (Kin (wr)) := ⟨⟨_, Below.refl _ _⟩⟩
         have kc0 : ∀ y : Kin (wr), y.val.cell? ⟨w.heap.size, 0, none⟩ = some (.func (.func 23) #[] #[]) := kcL
         have kc1 : ∀ y : Kin (wr), y.val.cell? ⟨w.heap.size, 1, none⟩ = some (.func (.func 24) #[] #[]) := kcL
         have kc2 : ∀ y : Kin (wr), y.val.cell? ⟨w.heap.size, 2, none⟩ = some (.int .i64 0) := kcL
         have kc3 : ∀ y : Kin (wr), y.val.cell? ⟨w.heap.size, 3, none⟩ = some (.func (.func 10) #[] #[]) := kcL
         have kc4 : ∀ y : Kin (wr), y.val.cell? ⟨w.heap.size + 1, 0, none⟩ = some (.int .i64 c.m) := kcL
         have kc5 : ∀ y : Kin (wr), y.val.cell? ⟨w.heap.size + 1, 1, none⟩ = some (.int .i64 c.a) := kcL
         have kc6 : ∀ y : Kin (wr), y.val.cell? ⟨w.heap.size + 1, 2, none⟩ = some (.int .i64 c.p) := kcL
         have kc7 : ∀ y : Kin (wr), y.val.cell? ⟨w.heap.size + 1, 3, none⟩ = some (.int .i64 c.g) := kcL
         have kc8 : ∀ y : Kin (wr), y.val.cell? ⟨w.heap.size + 1, 4, none⟩ = some (.int .i64 c.t) := kcL
         have kc9 : ∀ y : Kin (wr), y.val.cell? ⟨w.heap.size + 1, 5, none⟩ = some (.int .i64 c.b) := kcL
         have kc10 : ∀ y : Kin (wr), y.val.cell? ⟨w.heap.size + 1, 6, none⟩ = some (.int .i64 c.d) := kcL
         have kc11 : ∀ y : Kin (wr), y.val.cell? ⟨gh, oh + j * 5, none⟩ = some (.int .u32 hd.s) := kcL
         have kc12 : ∀ y : Kin (wr), y.val.cell? ⟨gh, oh + j * 5 + 1, none⟩ = some (.int .u32 hd.d) := kcL
         have kc13 : ∀ y : Kin (wr), y.val.cell? ⟨gh, oh + j * 5 + 2, none⟩ = some (.int .u16 hd.p) := kcL
         have kc14 : ∀ y : Kin (wr), y.val.cell? ⟨gh, oh + j * 5 + 3, none⟩ = some (.int .u16 hd.q) := kcL
         have kc15 : ∀ y : Kin (wr), y.val.cell? ⟨gh, oh + j * 5 + 4, none⟩ = some (.int .u8 hd.r) := kcL
         refine wp_region_kin (wr) (Below.refl _ _) (by kernel_rfl) (by kernel_rfl) ?_
         repeat (go_big_quiet_step (first | (go_at_call 32; exact kin_call (hAs _ (Kin.is _)))))
         refine wpQuiet_nil ?_
         rintro wq ⟨⟨xq, hxq⟩, hyq⟩
         have hq : Below (wr).heap.size (wr) wq := by rw [hyq]; exact hxq
         clear hyq hxq xq
         clear kne kc0 kc1 kc2 kc3 kc4 kc5 kc6 kc7 kc8 kc9 kc10 kc11 kc12 kc13 kc14 kc15
         obtain ⟨hcq, hfq⟩ := bcell hq
         have hzq := hq.size
         try simp at hzq
         have HBk : Hid (Below W4.heap.size W4 wq) := HBj.out.trans (hq.mono HBj.out.size)
         clear hq hcq hfq hzq hAs x0 x1 x2 x3 x4 k0 k1 k2 k3 q0 q1 q2 q3 q4 q5 q6 lk lc lx
         go_wp2_with (fail)
         go_roundw
         case rel => exact ⟨j + 1, by omega, by go_num, HBk.out⟩
         case measure => simp [intOf]; omega
        ·obtain rfl : j = nh := by omega
         have hnj : ¬ (j : Int) < (j : Int) := by omega
         have HPn : Hid (Ply w0 wr X c Lp (.slice au nu cu) S2 S0) := ⟨HEt.out.on HBj.out, HLt.out.on HBj.out, HGj.out⟩
         clear HEt HLt HGt HBj HGj
         go_wp2_with (fail)
         go_roundw
         case rel => exact ⟨k + 1, Lp, (.slice au nu cu), S2, by omega, rfl, by go_num, HPn.out⟩
         case measure => simp [intOf]; omega
   by_cases h2 : o.k = 2
   ·rw [h2] at y0
    as_aux_lemma =>
     have hIn := deleteE X c L S o.i W1 HE1.out
     have y2 : W1.cell? ⟨wr.heap.size, 2, none⟩ = some (.int .i64 o.i) := blk_cell KO1.out rfl
     go_wp2_with (go_at_call 206; fail)
     refine (hIn).mono ?_
     rintro e W2 ⟨rfl, hd2⟩
     obtain ⟨S2, hE2, hG2, hL2, hg2, hs2⟩ := HG1.out.did hd2
     have HE2 : Hid (Eng W2 X c _ S2) := hE2
     have HG2 : Hid (Gro w0 W2 X S2 S0) := hG2
     have HL2 : Hid (Lx W2 X S2 (.slice au nu cu) L) := hL2 _ _ HL1.out
     have KO2 : Hid (W2.heap[wr.heap.size]? = some (.cells #[.int .i64 o.k, .int .i64 o.p, .int .i64 o.i, .int .i64 o.r.i, .int .u32 o.r.s, .int .i64 o.r.sl, .int .u32 o.r.d, .int .i64 o.r.dl, .int .u16 o.r.p.1, .int .u16 o.r.p.2, .int .u16 o.r.q.1, .int .u16 o.r.q.2, .int .u8 o.r.m.1, .int .u8 o.r.m.2, .int .i64 o.r.act, .int .u32 o.h.s, .int .u32 o.h.d, .int .u16 o.h.p, .int .u16 o.h.q, .int .u8 o.h.r, .slice oa on oc] 66 (0, 0))) := (hg2.block _ (blk_lt KO1.out) (by have := HXr.out; omega) (fun e => by have := HSr.out _ e; omega)).trans KO1.out
     clear hE2 hG2 hL2 hg2 hs2 hIn HE1 HG1 HL1 KO1 y2
     have y2 : W2.cell? ⟨wr.heap.size, 2, none⟩ = some (.int .i64 o.i) := blk_cell KO2.out rfl
     have hRi := rdelC (.slice au nu cu) L o.i W2 HL2.out.1 (Nat.le_trans HLf.out (by decide))
     go_wp2_with (go_at_call 27; fail)
     refine hRi.mono ?_
     rintro e W3 ⟨v3, rfl, ho3, hb3⟩
     have HX2 : Hid (X < W2.heap.size) := HE2.out.lt
     obtain ⟨am, cm, hmv, _, _⟩ := id ho3.1
     obtain ⟨nm, hnm⟩ : ∃ n, n = (delL L o.i).length := ⟨_, rfl⟩
     rw [← hnm] at hmv
     subst hmv
     clear hnm
     have HEt : Hid (Eng W3 X c (delL L o.i) S2) := HE2.out.on hb3
     have HGt : Hid (Gro w0 W3 X S2 S0) := HG2.out.on hb3
     have HMt : Hid (delE L o.i = 0 → Lx W3 X S2 (.slice am nm cm) (delL L o.i)) := fun _ => HL2.out.outc HX2.out (fun k e => (HG2.out.sin k e).1) hb3 ho3
     have HUt : Hid (delE L o.i ≠ 0 → Lx W3 X S2 (.slice au nu cu) (delL L o.i)) := fun e => by rw [del_same e]; exact HL2.out.on hb3
     clear hRi ho3 hb3 y2 HE2 HG2 HL2 KO2 HX2
     generalize delL L o.i = Lp at *
     generalize delE L o.i = E at *
     by_cases hE0 : E = 0
     ·subst hE0
      have HLt : Hid (Lx W3 X S2 (.slice am nm cm) Lp) := HMt.out rfl
      clear HMt HUt
      as_aux_lemma =>
       go_wp2_with (fail)
       go_loopw [18] (fun vn wr => ∃ j : Nat, j ≤ nh ∧ vn = .int .i64 j ∧ Hid (Below W3.heap.size W3 wr)) (fun vn _ => nh - (intOf vn).toNat)
       case atStart => exact ⟨0, Nat.zero_le _, rfl, Below.refl _ _⟩
       case round =>
        obtain ⟨j, hj, rfl, HBj⟩ := hrel
        have HGj : Hid (Gro w0 wr X S2 S0) := HGt.out.on HBj.out
        by_cases hlj : j < nh
        ·have hlj' : j < hds.length := by rw [← Hnh.out]; exact hlj
         have hlji : (j : Int) < (nh : Int) := by omega
         have HBe2 : Below we.heap.size we wr := HGj.out.grs.below HB0e.out HB0e.out.size HXe.out (fun k e => (HS0.out k e).1)
         obtain ⟨gh, oh, rfl, hrg⟩ := HH.out.rng wr HBe2 j hlj'
         have ohd := HHo.out _ (List.getElem_mem hlj')
         generalize hds[j]'hlj' = hd at hrg ohd
         have x0 : wr.cell? ⟨gh, oh + j * 5, none⟩ = some (.int .u32 hd.s) := hrg 0 _ rfl
         have x1 : wr.cell? ⟨gh, oh + j * 5 + 1, none⟩ = some (.int .u32 hd.d) := hrg 1 _ rfl
         have x2 : wr.cell? ⟨gh, oh + j * 5 + 2, none⟩ = some (.int .u16 hd.p) := hrg 2 _ rfl
         have x3 : wr.cell? ⟨gh, oh + j * 5 + 3, none⟩ = some (.int .u16 hd.q) := hrg 3 _ rfl
         have x4 : wr.cell? ⟨gh, oh + j * 5 + 4, none⟩ = some (.int .u8 hd.r) := hrg 4 _ rfl
         have Kk : wr.heap[w.heap.size]? = some (.cells #[.func (.func 23) #[] #[], .func (.func 24) #[] #[], .int .i64 0, .func (.func 10) #[] #[]] 52 (0, 0)) := (HGj.out.grs.block _ (blk_lt Kk0.out) (by have := HXw.out; omega) (fun e => by have := HS0.out _ e; omega)).trans Kk0.out
         have Kc : wr.heap[w.heap.size + 1]? = some (.cells #[.int .i64 c.m, .int .i64 c.a, .int .i64 c.p, .int .i64 c.g, .int .i64 c.t, .int .i64 c.b, .int .i64 c.d] 24 (0, 0)) := (HGj.out.grs.block _ (blk_lt Kc0.out) (by have := HXw.out; omega) (fun e => by have := HS0.out _ e; omega)).trans Kc0.out
         obtain ⟨k0, k1, k2, k3⟩ := blk4 Kk
         obtain ⟨q0, q1, q2, q3, q4, q5, q6⟩ := blk7 Kc
         have lk := blk_lt Kk
         have lc := blk_lt Kc
         have lx := World.block_lt_of_cell? wr _ x0
         have hAs : ∀ W9, Below wr.heap.size wr W9 → Calls Tryz.prog 32 #[.agg #[.func (.func 23) #[] #[], .func (.func 24) #[] #[], .int .i64 0, .func (.func 10) #[] #[]], .iface 31 (.pointer (some ⟨X, 0, none⟩)), .agg #[.int .i64 c.m, .int .i64 c.a, .int .i64 c.p, .int .i64 c.g, .int .i64 c.t, .int .i64 c.b, .int .i64 c.d], (.slice am nm cm), .agg #[.int .u32 hd.s, .int .u32 hd.d, .int .u16 hd.p, .int .u16 hd.q, .int .u8 hd.r]] W9 fun e w9 => e = .returned (.bool true) ∧ Below W9.heap.size W9 w9 := fun W9 hb => askedC X c Lp S2 (.slice am nm cm) hd W9 (HEt.out.on (HBj.out.trans (hb.mono HBj.out.size))) (HLt.out.1.keep (HBj.out.trans (hb.mono HBj.out.size))) ohd
         clear hrg HBe2 Kk Kc
         go_upto_region 33 with (fail)
         have kne : Nonempty (Kin (wr)) := ⟨⟨_, Below.refl _ _⟩⟩
         have kc0 : ∀ y : Kin (wr), y.val.cell? ⟨w.heap.size, 0, none⟩ = some (.func (.func 23) #[] #[]) := kcL
         have kc1 : ∀ y : Kin (wr), y.val.cell? ⟨w.heap.size, 1, none⟩ = some (.func (.func 24) #[] #[]) := kcL
         have kc2 : ∀ y : Kin (wr), y.val.cell? ⟨w.heap.size, 2, none⟩ = some (.int .i64 0) := kcL
         have kc3 : ∀ y : Kin (wr), y.val.cell? ⟨w.heap.size, 3, none⟩ = some (.func (.func 10) #[] #[]) := kcL
         have kc4 : ∀ y : Kin (wr), y.val.cell? ⟨w.heap.size + 1, 0, none⟩ = some (.int .i64 c.m) := kcL
         have kc5 : ∀ y : Kin (wr), y.val.cell? ⟨w.heap.size + 1, 1, none⟩ = some (.int .i64 c.a) := kcL
         have kc6 : ∀ y : Kin (wr), y.val.cell? ⟨w.heap.size + 1, 2, none⟩ = some (.int .i64 c.p) := kcL
         have kc7 : ∀ y : Kin (wr), y.val.cell? ⟨w.heap.size + 1, 3, none⟩ = some (.int .i64 c.g) := kcL
         have kc8 : ∀ y : Kin (wr), y.val.cell? ⟨w.heap.size + 1, 4, none⟩ = some (.int .i64 c.t) := kcL
         have kc9 : ∀ y : Kin (wr), y.val.cell? ⟨w.heap.size + 1, 5, none⟩ = some (.int .i64 c.b) := kcL
         have kc10 : ∀ y : Kin (wr), y.val.cell? ⟨w.heap.size + 1, 6, none⟩ = some (.int .i64 c.d) := kcL
         have kc11 : ∀ y : Kin (wr), y.val.cell? ⟨gh, oh + j * 5, none⟩ = some (.int .u32 hd.s) := kcL
         have kc12 : ∀ y : Kin (wr), y.val.cell? ⟨gh, oh + j * 5 + 1, none⟩ = some (.int .u32 hd.d) := kcL
         have kc13 : ∀ y : Kin (wr), y.val.cell? ⟨gh, oh + j * 5 + 2, none⟩ = some (.int .u16 hd.p) := kcL
         have kc14 : ∀ y : Kin (wr), y.val.cell? ⟨gh, oh + j * 5 + 3, none⟩ = some (.int .u16 hd.q) := kcL
         have kc15 : ∀ y : Kin (wr), y.val.cell? ⟨gh, oh + j * 5 + 4, none⟩ = some (.int .u8 hd.r) := kcL
         refine wp_region_kin (wr) (Below.refl _ _) (by kernel_rfl) (by kernel_rfl) ?_
         repeat (go_big_quiet_step (first | (go_at_call 32; exact kin_call (hAs _ (Kin.is _)))))
         refine wpQuiet_nil ?_
         rintro wq ⟨⟨xq, hxq⟩, hyq⟩
         have hq : Below (wr).heap.size (wr) wq := by rw [hyq]; exact hxq
         clear hyq hxq xq
         clear kne kc0 kc1 kc2 kc3 kc4 kc5 kc6 kc7 kc8 kc9 kc10 kc11 kc12 kc13 kc14 kc15
         obtain ⟨hcq, hfq⟩ := bcell hq
         have hzq := hq.size
         try simp at hzq
         have HBk : Hid (Below W3.heap.size W3 wq) := HBj.out.trans (hq.mono HBj.out.size)
         clear hq hcq hfq hzq hAs x0 x1 x2 x3 x4 k0 k1 k2 k3 q0 q1 q2 q3 q4 q5 q6 lk lc lx
         go_wp2_with (fail)
         go_roundw
         case rel => exact ⟨j + 1, by omega, by go_num, HBk.out⟩
         case measure => simp [intOf]; omega
        ·obtain rfl : j = nh := by omega
         have hnj : ¬ (j : Int) < (j : Int) := by omega
         have HPn : Hid (Ply w0 wr X c Lp (.slice am nm cm) S2 S0) := ⟨HEt.out.on HBj.out, HLt.out.on HBj.out, HGj.out⟩
         clear HEt HLt HGt HBj HGj
         go_wp2_with (fail)
         go_roundw
         case rel => exact ⟨k + 1, Lp, (.slice am nm cm), S2, by omega, rfl, by go_num, HPn.out⟩
         case measure => simp [intOf]; omega
     ·have hE1 : (E == 0) = false := by simpa using hE0
      have HLt : Hid (Lx W3 X S2 (.slice au nu cu) Lp) := HUt.out hE0
      clear HMt HUt
      as_aux_lemma =>
       go_wp2_with (fail)
       go_loopw [18] (fun vn wr => ∃ j : Nat, j ≤ nh ∧ vn = .int .i64 j ∧ Hid (Below W3.heap.size W3 wr)) (fun vn _ => nh - (intOf vn).toNat)
       case atStart => exact ⟨0, Nat.zero_le _, rfl, Below.refl _ _⟩
       case round =>
        obtain ⟨j, hj, rfl, HBj⟩ := hrel
        have HGj : Hid (Gro w0 wr X S2 S0) := HGt.out.on HBj.out
        by_cases hlj : j < nh
        ·have hlj' : j < hds.length := by rw [← Hnh.out]; exact hlj
         have hlji : (j : Int) < (nh : Int) := by omega
         have HBe2 : Below we.heap.size we wr := HGj.out.grs.below HB0e.out HB0e.out.size HXe.out (fun k e => (HS0.out k e).1)
         obtain ⟨gh, oh, rfl, hrg⟩ := HH.out.rng wr HBe2 j hlj'
         have ohd := HHo.out _ (List.getElem_mem hlj')
         generalize hds[j]'hlj' = hd at hrg ohd
         have x0 : wr.cell? ⟨gh, oh + j * 5, none⟩ = some (.int .u32 hd.s) := hrg 0 _ rfl
         have x1 : wr.cell? ⟨gh, oh + j * 5 + 1, none⟩ = some (.int .u32 hd.d) := hrg 1 _ rfl
         have x2 : wr.cell? ⟨gh, oh + j * 5 + 2, none⟩ = some (.int .u16 hd.p) := hrg 2 _ rfl
         have x3 : wr.cell? ⟨gh, oh + j * 5 + 3, none⟩ = some (.int .u16 hd.q) := hrg 3 _ rfl
         have x4 : wr.cell? ⟨gh, oh + j * 5 + 4, none⟩ = some (.int .u8 hd.r) := hrg 4 _ rfl
         have Kk : wr.heap[w.heap.size]? = some (.cells #[.func (.func 23) #[] #[], .func (.func 24) #[] #[], .int .i64 0, .func (.func 10) #[] #[]] 52 (0, 0)) := (HGj.out.grs.block _ (blk_lt Kk0.out) (by have := HXw.out; omega) (fun e => by have := HS0.out _ e; omega)).trans Kk0.out
         have Kc : wr.heap[w.heap.size + 1]? = some (.cells #[.int .i64 c.m, .int .i64 c.a, .int .i64 c.p, .int .i64 c.g, .int .i64 c.t, .int .i64 c.b, .int .i64 c.d] 24 (0, 0)) := (HGj.out.grs.block _ (blk_lt Kc0.out) (by have := HXw.out; omega) (fun e => by have := HS0.out _ e; omega)).trans Kc0.out
         obtain ⟨k0, k1, k2, k3⟩ := blk4 Kk
         obtain ⟨q0, q1, q2, q3, q4, q5, q6⟩ := blk7 Kc
         have lk := blk_lt Kk
         have lc := blk_lt Kc
         have lx := World.block_lt_of_cell? wr _ x0
         have hAs : ∀ W9, Below wr.heap.size wr W9 → Calls Tryz.prog 32 #[.agg #[.func (.func 23) #[] #[], .func (.func 24) #[] #[], .int .i64 0, .func (.func 10) #[] #[]], .iface 31 (.pointer (some ⟨X, 0, none⟩)), .agg #[.int .i64 c.m, .int .i64 c.a, .int .i64 c.p, .int .i64 c.g, .int .i64 c.t, .int .i64 c.b, .int .i64 c.d], (.slice au nu cu), .agg #[.int .u32 hd.s, .int .u32 hd.d, .int .u16 hd.p, .int .u16 hd.q, .int .u8 hd.r]] W9 fun e w9 => e = .returned (.bool true) ∧ Below W9.heap.size W9 w9 := fun W9 hb => askedC X c Lp S2 (.slice au nu cu) hd W9 (HEt.out.on (HBj.out.trans (hb.mono HBj.out.size))) (HLt.out.1.keep (HBj.out.trans (hb.mono HBj.out.size))) ohd
         clear hrg HBe2 Kk Kc
         go_upto_region 33 with (fail)
         have kne : Nonempty (Kin (wr)) := ⟨⟨_, Below.refl _ _⟩⟩
         have kc0 : ∀ y : Kin (wr), y.val.cell? ⟨w.heap.size, 0, none⟩ = some (.func (.func 23) #[] #[]) := kcL
         have kc1 : ∀ y : Kin (wr), y.val.cell? ⟨w.heap.size, 1, none⟩ = some (.func (.func 24) #[] #[]) := kcL
         have kc2 : ∀ y : Kin (wr), y.val.cell? ⟨w.heap.size, 2, none⟩ = some (.int .i64 0) := kcL
         have kc3 : ∀ y : Kin (wr), y.val.cell? ⟨w.heap.size, 3, none⟩ = some (.func (.func 10) #[] #[]) := kcL
         have kc4 : ∀ y : Kin (wr), y.val.cell? ⟨w.heap.size + 1, 0, none⟩ = some (.int .i64 c.m) := kcL
         have kc5 : ∀ y : Kin (wr), y.val.cell? ⟨w.heap.size + 1, 1, none⟩ = some (.int .i64 c.a) := kcL
         have kc6 : ∀ y : Kin (wr), y.val.cell? ⟨w.heap.size + 1, 2, none⟩ = some (.int .i64 c.p) := kcL
         have kc7 : ∀ y : Kin (wr), y.val.cell? ⟨w.heap.size + 1, 3, none⟩ = some (.int .i64 c.g) := kcL
         have kc8 : ∀ y : Kin (wr), y.val.cell? ⟨w.heap.size + 1, 4, none⟩ = some (.int .i64 c.t) := kcL
         have kc9 : ∀ y : Kin (wr), y.val.cell? ⟨w.heap.size + 1, 5, none⟩ = some (.int .i64 c.b) := kcL
         have kc10 : ∀ y : Kin (wr), y.val.cell? ⟨w.heap.size + 1, 6, none⟩ = some (.int .i64 c.d) := kcL
         have kc11 : ∀ y : Kin (wr), y.val.cell? ⟨gh, oh + j * 5, none⟩ = some (.int .u32 hd.s) := kcL
         have kc12 : ∀ y : Kin (wr), y.val.cell? ⟨gh, oh + j * 5 + 1, none⟩ = some (.int .u32 hd.d) := kcL
         have kc13 : ∀ y : Kin (wr), y.val.cell? ⟨gh, oh + j * 5 + 2, none⟩ = some (.int .u16 hd.p) := kcL
         have kc14 : ∀ y : Kin (wr), y.val.cell? ⟨gh, oh + j * 5 + 3, none⟩ = some (.int .u16 hd.q) := kcL
         have kc15 : ∀ y : Kin (wr), y.val.cell? ⟨gh, oh + j * 5 + 4, none⟩ = some (.int .u8 hd.r) := kcL
         refine wp_region_kin (wr) (Below.refl _ _) (by kernel_rfl) (by kernel_rfl) ?_
         repeat (go_big_quiet_step (first | (go_at_call 32; exact kin_call (hAs _ (Kin.is _)))))
         refine wpQuiet_nil ?_
         rintro wq ⟨⟨xq, hxq⟩, hyq⟩
         have hq : Below (wr).heap.size (wr) wq := by rw [hyq]; exact hxq
         clear hyq hxq xq
         clear kne kc0 kc1 kc2 kc3 kc4 kc5 kc6 kc7 kc8 kc9 kc10 kc11 kc12 kc13 kc14 kc15
         obtain ⟨hcq, hfq⟩ := bcell hq
         have hzq := hq.size
         try simp at hzq
         have HBk : Hid (Below W3.heap.size W3 wq) := HBj.out.trans (hq.mono HBj.out.size)
         clear hq hcq hfq hzq hAs x0 x1 x2 x3 x4 k0 k1 k2 k3 q0 q1 q2 q3 q4 q5 q6 lk lc lx
         go_wp2_with (fail)
         go_roundw
         case rel => exact ⟨j + 1, by omega, by go_num, HBk.out⟩
         case measure => simp [intOf]; omega
        ·obtain rfl : j = nh := by omega
         have hnj : ¬ (j : Int) < (j : Int) := by omega
         have HPn : Hid (Ply w0 wr X c Lp (.slice au nu cu) S2 S0) := ⟨HEt.out.on HBj.out, HLt.out.on HBj.out, HGj.out⟩
         clear HEt HLt HGt HBj HGj
         go_wp2_with (fail)
         go_roundw
         case rel => exact ⟨k + 1, Lp, (.slice au nu cu), S2, by omega, rfl, by go_num, HPn.out⟩
         case measure => simp [intOf]; omega
   by_cases h4 : o.k = 4
   ·rw [h4] at y0
    as_aux_lemma =>
     have HOs : Hid (∀ W, Below we.heap.size we W → SrcU W (.slice oa on oc) o.l) := fun W hb => by rw [← HOu.out]; exact HBo.out.2.2.2.2.2.1.keep hb
     have y20 : W1.cell? ⟨wr.heap.size, 20, none⟩ = some (.slice oa on oc) := blk_cell KO1.out rfl
     have hLe := lendC (.slice oa on oc) o.l W1 (HOs.out W1 HBe1.out) HOl.out
     go_wp2_with (go_at_call 28; fail)
     refine hLe.mono ?_
     rintro e W1a ⟨xv, g, rfl, hL, hg1, hg2, hb⟩
     have HE1a : Hid (Eng W1a X c L S) := HE1.out.on hb
     have HG1a : Hid (Gro w0 W1a X S S0) := HG1.out.on hb
     have HL1a : Hid (Lx W1a X S (.slice au nu cu) L) := HL1.out.on hb
     have KO1a : Hid (W1a.heap[wr.heap.size]? = some (.cells #[.int .i64 o.k, .int .i64 o.p, .int .i64 o.i, .int .i64 o.r.i, .int .u32 o.r.s, .int .i64 o.r.sl, .int .u32 o.r.d, .int .i64 o.r.dl, .int .u16 o.r.p.1, .int .u16 o.r.p.2, .int .u16 o.r.q.1, .int .u16 o.r.q.2, .int .u8 o.r.m.1, .int .u8 o.r.m.2, .int .i64 o.r.act, .int .u32 o.h.s, .int .u32 o.h.d, .int .u16 o.h.p, .int .u16 o.h.q, .int .u8 o.h.r, .slice oa on oc] 66 (0, 0))) := blk_on KO1.out hb
     have HLn : Hid (Lent W1a xv o.l g) := hL
     have Hg : Hid (W1.heap.size ≤ g ∧ g < W1a.heap.size) := ⟨hg1, hg2⟩
     have HXg : Hid (X ≠ g) := by have := HE1.out.lt; show _ ≠ _; omega
     have HxE : Hid (xv = .slice (some ⟨g, 0, none⟩) o.l.length (o.l.length + 2)) := hL.1
     obtain ⟨nx, hnx⟩ : ∃ n, n = o.l.length := ⟨_, rfl⟩
     have hxe := hL.1
     rw [← hnx] at hxe
     subst hxe
     have hSe := setEE X c L S _ _ _ o.l W1a HE1a.out hL.src HOl.out HBo.out.2.2.2.2.2.2 hc HM64.out
     clear hnx hLe hL hg1 hg2 hb HE1 HG1 HL1 KO1 HBe1 y20
     go_wp2_with (go_at_call 207; fail)
     refine (hSe).mono ?_
     rintro e W2 ⟨rfl, hd2⟩
     obtain ⟨S2, hE2, hG2, hL2, hg2, hs2⟩ := HG1a.out.did hd2
     have HE2 : Hid (Eng W2 X c _ S2) := hE2
     have HG2 : Hid (Gro w0 W2 X S2 S0) := hG2
     have HL2 : Hid (Lx W2 X S2 (.slice au nu cu) L) := hL2 _ _ HL1a.out
     have KO2 : Hid (W2.heap[wr.heap.size]? = some (.cells #[.int .i64 o.k, .int .i64 o.p, .int .i64 o.i, .int .i64 o.r.i, .int .u32 o.r.s, .int .i64 o.r.sl, .int .u32 o.r.d, .int .i64 o.r.dl, .int .u16 o.r.p.1, .int .u16 o.r.p.2, .int .u16 o.r.q.1, .int .u16 o.r.q.2, .int .u8 o.r.m.1, .int .u8 o.r.m.2, .int .i64 o.r.act, .int .u32 o.h.s, .int .u32 o.h.d, .int .u16 o.h.p, .int .u16 o.h.q, .int .u8 o.h.r, .slice oa on oc] 66 (0, 0))) := (hg2.block _ (blk_lt KO1a.out) (by have := HXr.out; omega) (fun e => by have := HSr.out _ e; omega)).trans KO1a.out
     have HLn2 : Hid (Lent W2 (.slice (some ⟨g, 0, none⟩) nx (nx + 2)) o.l g) := HLn.out.stay (hg2.block g Hg.out.2 (fun e => HXg.out e.symm) (fun e => by have := HSr.out _ e; have := Hg.out.1; have := HszW1.out; omega))
     have Hg2 : Hid (g < W2.heap.size) := Nat.lt_of_lt_of_le Hg.out.2 hg2.size
     have HnS : Hid (¬ S2 g) := fun e => by rcases hs2 _ e with e | e; (have := HSr.out _ e; have := Hg.out.1; have := HszW1.out; omega); (have := Hg.out.2; omega)
     have HBe2 : Hid (Below we.heap.size we W2) := HG2.out.grs.below HB0e.out HB0e.out.size HXe.out (fun k e => (HS0.out k e).1)
     have hBa := backC (.slice oa on oc) _ o.l g W2 HLn2.out (HOs.out W2 HBe2.out) HOl.out
     have y20 : W2.cell? ⟨wr.heap.size, 20, none⟩ = some (.slice oa on oc) := blk_cell KO2.out rfl
     clear hE2 hG2 hL2 hg2 hs2 hSe HE1a HG1a HL1a KO1a HLn
     go_wp2_with (go_at_call 29; fail)
     refine hBa.mono ?_
     rintro e W3 ⟨rfl, hg3⟩
     have HE3 : Hid (Eng W3 X c _ S2) := HE2.out.apart hg3 HXg.out HnS.out
     have HG3 : Hid (Gro w0 W3 X S2 S0) := HG2.out.new hg3 (by have := Hg.out.1; have := HszW1.out; have := Hszr.out; omega)
     have HL3 : Hid (Lx W3 X S2 (.slice au nu cu) L) := HL2.out.other hg3 (fun e => by have := HLown.out _ e; have := Hg.out.1; have := HszW1.out; omega)
     have KO3 : Hid (W3.heap[wr.heap.size]? = some (.cells #[.int .i64 o.k, .int .i64 o.p, .int .i64 o.i, .int .i64 o.r.i, .int .u32 o.r.s, .int .i64 o.r.sl, .int .u32 o.r.d, .int .i64 o.r.dl, .int .u16 o.r.p.1, .int .u16 o.r.p.2, .int .u16 o.r.q.1, .int .u16 o.r.q.2, .int .u8 o.r.m.1, .int .u8 o.r.m.2, .int .i64 o.r.act, .int .u32 o.h.s, .int .u32 o.h.d, .int .u16 o.h.p, .int .u16 o.h.q, .int .u8 o.h.r, .slice oa on oc] 66 (0, 0))) := (hg3.block _ (blk_lt KO2.out) (fun e => by injection e with e; have := Hg.out.1; have := HszW1.out; omega)).trans KO2.out
     have HBe3 : Hid (Below we.heap.size we W3) := HG3.out.grs.below HB0e.out HB0e.out.size HXe.out (fun k e => (HS0.out k e).1)
     have hCo := rcopyC (.slice oa on oc) o.l W3 (HOs.out W3 HBe3.out) HOl.out
     clear hBa hg3 HE2 HG2 HL2 KO2 HLn2 HnS HBe2 y20
     have y20 : W3.cell? ⟨wr.heap.size, 20, none⟩ = some (.slice oa on oc) := blk_cell KO3.out rfl
     go_wp2_with (go_at_call 30; fail)
     refine hCo.mono ?_
     rintro e W4 ⟨v3, rfl, hr4, hb4⟩
     have HE4 : Hid (Eng W4 X c _ S2) := HE3.out.on hb4
     have HG4 : Hid (Gro w0 W4 X S2 S0) := HG3.out.on hb4
     have HL4 : Hid (Lx W4 X S2 (.slice au nu cu) L) := HL3.out.on hb4
     have HM4 : Hid (Lx W4 X S2 v3 o.l) := Lx.row HE3.out.lt (fun k e => (HG3.out.sin k e).1) hr4
     have KO4 : Hid (W4.heap[wr.heap.size]? = some (.cells #[.int .i64 o.k, .int .i64 o.p, .int .i64 o.i, .int .i64 o.r.i, .int .u32 o.r.s, .int .i64 o.r.sl, .int .u32 o.r.d, .int .i64 o.r.dl, .int .u16 o.r.p.1, .int .u16 o.r.p.2, .int .u16 o.r.q.1, .int .u16 o.r.q.2, .int .u8 o.r.m.1, .int .u8 o.r.m.2, .int .i64 o.r.act, .int .u32 o.h.s, .int .u32 o.h.d, .int .u16 o.h.p, .int .u16 o.h.q, .int .u8 o.h.r, .slice oa on oc] 66 (0, 0))) := blk_on KO3.out hb4
     have HBe4 : Hid (Below we.heap.size we W4) := HG4.out.grs.below HB0e.out HB0e.out.size HXe.out (fun k e => (HS0.out k e).1)
     obtain ⟨am, cm, hmv, _⟩ := hr4.form
     obtain ⟨nm, hnm⟩ : ∃ n, n = o.l.length := ⟨_, rfl⟩
     rw [← hnm] at hmv
     subst hmv
     clear hnm hCo hr4 hb4 HE3 HG3 HL3 KO3 HBe3 y20
     have Kk : W4.heap[w.heap.size]? = some (.cells #[.func (.func 23) #[] #[], .func (.func 24) #[] #[], .int .i64 0, .func (.func 10) #[] #[]] 52 (0, 0)) := (HG4.out.grs.block _ (blk_lt Kk0.out) (by have := HXw.out; omega) (fun e => by have := HS0.out _ e; omega)).trans Kk0.out
     have Kc : W4.heap[w.heap.size + 1]? = some (.cells #[.int .i64 c.m, .int .i64 c.a, .int .i64 c.p, .int .i64 c.g, .int .i64 c.t, .int .i64 c.b, .int .i64 c.d] 24 (0, 0)) := (HG4.out.grs.block _ (blk_lt Kc0.out) (by have := HXw.out; omega) (fun e => by have := HS0.out _ e; omega)).trans Kc0.out
     obtain ⟨k0, k1, k2, k3⟩ := blk4 Kk
     obtain ⟨q0, q1, q2, q3, q4, q5, q6⟩ := blk7 Kc
     have lk := blk_lt Kk
     have lc := blk_lt Kc
     have y20 : W4.cell? ⟨wr.heap.size, 20, none⟩ = some (.slice oa on oc) := blk_cell KO4.out rfl
     have lo := blk_lt KO4.out
     have hSt : ∀ W, Below W4.heap.size W4 W → Calls Tryz.prog 31 #[.slice oa on oc, .int .i64 c.m] W fun e w9 => e = .returned (.int .i64 (setE o.l c.m)) ∧ Below W.heap.size W w9 := fun W hb => rsetC _ o.l c.m W (HOs.out W (HBe4.out.trans (hb.mono HBe4.out.size))) HOl.out (fun k hk => HBo.out.2.2.2.2.2.2 _ (List.getElem_mem hk))
     have hRo : ∀ W, Below W4.heap.size W4 W → Calls Tryz.prog 26 #[.agg #[.func (.func 23) #[] #[], .func (.func 24) #[] #[], .int .i64 0, .func (.func 10) #[] #[]], .agg #[.int .i64 c.m, .int .i64 c.a, .int .i64 c.p, .int .i64 c.g, .int .i64 c.t, .int .i64 c.b, .int .i64 c.d], .slice am nm cm, .int .i64 (setE o.l c.m)] W fun e w9 => e = .returned (.int .i64 (setE o.l c.m)) ∧ Below W.heap.size W w9 := fun W hb => by have := roomC c o.l (.slice am nm cm) (setE o.l c.m) W (HM4.out.1.keep hb) HBo.out.2.2.2.2.2.2; exact this
     clear Kk Kc KO4
     go_upto_region 25 with (fail)
     have kne : Nonempty (Kin (W4)) := ⟨⟨_, Below.refl _ _⟩⟩
     have kc0 : ∀ y : Kin (W4), y.val.cell? ⟨w.heap.size, 0, none⟩ = some (.func (.func 23) #[] #[]) := kcL
     have kc1 : ∀ y : Kin (W4), y.val.cell? ⟨w.heap.size, 1, none⟩ = some (.func (.func 24) #[] #[]) := kcL
     have kc2 : ∀ y : Kin (W4), y.val.cell? ⟨w.heap.size, 2, none⟩ = some (.int .i64 0) := kcL
     have kc3 : ∀ y : Kin (W4), y.val.cell? ⟨w.heap.size, 3, none⟩ = some (.func (.func 10) #[] #[]) := kcL
     have kc4 : ∀ y : Kin (W4), y.val.cell? ⟨w.heap.size + 1, 0, none⟩ = some (.int .i64 c.m) := kcL
     have kc5 : ∀ y : Kin (W4), y.val.cell? ⟨w.heap.size + 1, 1, none⟩ = some (.int .i64 c.a) := kcL
     have kc6 : ∀ y : Kin (W4), y.val.cell? ⟨w.heap.size + 1, 2, none⟩ = some (.int .i64 c.p) := kcL
     have kc7 : ∀ y : Kin (W4), y.val.cell? ⟨w.heap.size + 1, 3, none⟩ = some (.int .i64 c.g) := kcL
     have kc8 : ∀ y : Kin (W4), y.val.cell? ⟨w.heap.size + 1, 4, none⟩ = some (.int .i64 c.t) := kcL
     have kc9 : ∀ y : Kin (W4), y.val.cell? ⟨w.heap.size + 1, 5, none⟩ = some (.int .i64 c.b) := kcL
     have kc10 : ∀ y : Kin (W4), y.val.cell? ⟨w.heap.size + 1, 6, none⟩ = some (.int .i64 c.d) := kcL
     have kc11 : ∀ y : Kin (W4), y.val.cell? ⟨wr.heap.size, 20, none⟩ = some (.slice oa on oc) := kcL
     refine wp_region_kin (W4) (Below.refl _ _) (by kernel_rfl) (by kernel_rfl) ?_
     repeat (go_big_quiet_step (first | (go_at_call 31; exact kin_call (hSt _ (Kin.is _))) | (go_at_call 26; exact kin_call (hRo _ (Kin.is _)))))
     refine wpQuiet_nil ?_
     rintro wq ⟨⟨xq, hxq⟩, hyq⟩
     have hq : Below (W4).heap.size (W4) wq := by rw [hyq]; exact hxq
     clear hyq hxq xq
     clear kne kc0 kc1 kc2 kc3 kc4 kc5 kc6 kc7 kc8 kc9 kc10 kc11
     obtain ⟨hcq, hfq⟩ := bcell hq
     have hzq := hq.size
     try simp at hzq
     generalize wq = W5 at *
     have HEt : Hid (Eng W5 X c (psetL c o.l L) S2) := HE4.out.on hq
     have HGt : Hid (Gro w0 W5 X S2 S0) := HG4.out.on hq
     have HMt : Hid (setE o.l c.m = 0 → Lx W5 X S2 (.slice am nm cm) (psetL c o.l L)) := fun e => by rw [show psetL c o.l L = o.l from if_pos e]; exact HM4.out.on hq
     have HUt : Hid (setE o.l c.m ≠ 0 → Lx W5 X S2 (.slice au nu cu) (psetL c o.l L)) := fun e => by rw [show psetL c o.l L = L from if_neg e]; exact HL4.out.on hq
     clear hq hcq hfq hzq hSt hRo HE4 HG4 HL4 HM4 HBe4 k0 k1 k2 k3 q0 q1 q2 q3 q4 q5 q6 lk lc lo y20
     generalize psetL c o.l L = Lp at *
     generalize setE o.l c.m = E at *
     by_cases hE0 : E = 0
     ·subst hE0
      have HLt : Hid (Lx W5 X S2 (.slice am nm cm) Lp) := HMt.out rfl
      clear HMt HUt
      as_aux_lemma =>
       go_wp2_with (fail)
       go_loopw [18] (fun vn wr => ∃ j : Nat, j ≤ nh ∧ vn = .int .i64 j ∧ Hid (Below W5.heap.size W5 wr)) (fun vn _ => nh - (intOf vn).toNat)
       case atStart => exact ⟨0, Nat.zero_le _, rfl, Below.refl _ _⟩
       case round =>
        obtain ⟨j, hj, rfl, HBj⟩ := hrel
        have HGj : Hid (Gro w0 wr X S2 S0) := HGt.out.on HBj.out
        by_cases hlj : j < nh
        ·have hlj' : j < hds.length := by rw [← Hnh.out]; exact hlj
         have hlji : (j : Int) < (nh : Int) := by omega
         have HBe2 : Below we.heap.size we wr := HGj.out.grs.below HB0e.out HB0e.out.size HXe.out (fun k e => (HS0.out k e).1)
         obtain ⟨gh, oh, rfl, hrg⟩ := HH.out.rng wr HBe2 j hlj'
         have ohd := HHo.out _ (List.getElem_mem hlj')
         generalize hds[j]'hlj' = hd at hrg ohd
         have x0 : wr.cell? ⟨gh, oh + j * 5, none⟩ = some (.int .u32 hd.s) := hrg 0 _ rfl
         have x1 : wr.cell? ⟨gh, oh + j * 5 + 1, none⟩ = some (.int .u32 hd.d) := hrg 1 _ rfl
         have x2 : wr.cell? ⟨gh, oh + j * 5 + 2, none⟩ = some (.int .u16 hd.p) := hrg 2 _ rfl
         have x3 : wr.cell? ⟨gh, oh + j * 5 + 3, none⟩ = some (.int .u16 hd.q) := hrg 3 _ rfl
         have x4 : wr.cell? ⟨gh, oh + j * 5 + 4, none⟩ = some (.int .u8 hd.r) := hrg 4 _ rfl
         have Kk : wr.heap[w.heap.size]? = some (.cells #[.func (.func 23) #[] #[], .func (.func 24) #[] #[], .int .i64 0, .func (.func 10) #[] #[]] 52 (0, 0)) := (HGj.out.grs.block _ (blk_lt Kk0.out) (by have := HXw.out; omega) (fun e => by have := HS0.out _ e; omega)).trans Kk0.out
         have Kc : wr.heap[w.heap.size + 1]? = some (.cells #[.int .i64 c.m, .int .i64 c.a, .int .i64 c.p, .int .i64 c.g, .int .i64 c.t, .int .i64 c.b, .int .i64 c.d] 24 (0, 0)) := (HGj.out.grs.block _ (blk_lt Kc0.out) (by have := HXw.out; omega) (fun e => by have := HS0.out _ e; omega)).trans Kc0.out
         obtain ⟨k0, k1, k2, k3⟩ := blk4 Kk
         obtain ⟨q0, q1, q2, q3, q4, q5, q6⟩ := blk7 Kc
         have lk := blk_lt Kk
         have lc := blk_lt Kc
         have lx := World.block_lt_of_cell? wr _ x0
         have hAs : ∀ W9, Below wr.heap.size wr W9 → Calls Tryz.prog 32 #[.agg #[.func (.func 23) #[] #[], .func (.func 24) #[] #[], .int .i64 0, .func (.func 10) #[] #[]], .iface 31 (.pointer (some ⟨X, 0, none⟩)), .agg #[.int .i64 c.m, .int .i64 c.a, .int .i64 c.p, .int .i64 c.g, .int .i64 c.t, .int .i64 c.b, .int .i64 c.d], (.slice am nm cm), .agg #[.int .u32 hd.s, .int .u32 hd.d, .int .u16 hd.p, .int .u16 hd.q, .int .u8 hd.r]] W9 fun e w9 => e = .returned (.bool true) ∧ Below W9.heap.size W9 w9 := fun W9 hb => askedC X c Lp S2 (.slice am nm cm) hd W9 (HEt.out.on (HBj.out.trans (hb.mono HBj.out.size))) (HLt.out.1.keep (HBj.out.trans (hb.mono HBj.out.size))) ohd
         clear hrg HBe2 Kk Kc
         go_upto_region 33 with (fail)
         have kne : Nonempty (Kin (wr)) := ⟨⟨_, Below.refl _ _⟩⟩
         have kc0 : ∀ y : Kin (wr), y.val.cell? ⟨w.heap.size, 0, none⟩ = some (.func (.func 23) #[] #[]) := kcL
         have kc1 : ∀ y : Kin (wr), y.val.cell? ⟨w.heap.size, 1, none⟩ = some (.func (.func 24) #[] #[]) := kcL
         have kc2 : ∀ y : Kin (wr), y.val.cell? ⟨w.heap.size, 2, none⟩ = some (.int .i64 0) := kcL
         have kc3 : ∀ y : Kin (wr), y.val.cell? ⟨w.heap.size, 3, none⟩ = some (.func (.func 10) #[] #[]) := kcL
         have kc4 : ∀ y : Kin (wr), y.val.cell? ⟨w.heap.size + 1, 0, none⟩ = some (.int .i64 c.m) := kcL
         have kc5 : ∀ y : Kin (wr), y.val.cell? ⟨w.heap.size + 1, 1, none⟩ = some (.int .i64 c.a) := kcL
         have kc6 : ∀ y : Kin (wr), y.val.cell? ⟨w.heap.size + 1, 2, none⟩ = some (.int .i64 c.p) := kcL
         have kc7 : ∀ y : Kin (wr), y.val.cell? ⟨w.heap.size + 1, 3, none⟩ = some (.int .i64 c.g) := kcL
         have kc8 : ∀ y : Kin (wr), y.val.cell? ⟨w.heap.size + 1, 4, none⟩ = some (.int .i64 c.t) := kcL
         have kc9 : ∀ y : Kin (wr), y.val.cell? ⟨w.heap.size + 1, 5, none⟩ = some (.int .i64 c.b) := kcL
         have kc10 : ∀ y : Kin (wr), y.val.cell? ⟨w.heap.size + 1, 6, none⟩ = some (.int .i64 c.d) := kcL
         have kc11 : ∀ y : Kin (wr), y.val.cell? ⟨gh, oh + j * 5, none⟩ = some (.int .u32 hd.s) := kcL
         have kc12 : ∀ y : Kin (wr), y.val.cell? ⟨gh, oh + j * 5 + 1, none⟩ = some (.int .u32 hd.d) := kcL
         have kc13 : ∀ y : Kin (wr), y.val.cell? ⟨gh, oh + j * 5 + 2, none⟩ = some (.int .u16 hd.p) := kcL
         have kc14 : ∀ y : Kin (wr), y.val.cell? ⟨gh, oh + j * 5 + 3, none⟩ = some (.int .u16 hd.q) := kcL
         have kc15 : ∀ y : Kin (wr), y.val.cell? ⟨gh, oh + j * 5 + 4, none⟩ = some (.int .u8 hd.r) := kcL
         refine wp_region_kin (wr) (Below.refl _ _) (by kernel_rfl) (by kernel_rfl) ?_
         repeat (go_big_quiet_step (first | (go_at_call 32; exact kin_call (hAs _ (Kin.is _)))))
         refine wpQuiet_nil ?_
         rintro wq ⟨⟨xq, hxq⟩, hyq⟩
         have hq : Below (wr).heap.size (wr) wq := by rw [hyq]; exact hxq
         clear hyq hxq xq
         clear kne kc0 kc1 kc2 kc3 kc4 kc5 kc6 kc7 kc8 kc9 kc10 kc11 kc12 kc13 kc14 kc15
         obtain ⟨hcq, hfq⟩ := bcell hq
         have hzq := hq.size
         try simp at hzq
         have HBk : Hid (Below W5.heap.size W5 wq) := HBj.out.trans (hq.mono HBj.out.size)
         clear hq hcq hfq hzq hAs x0 x1 x2 x3 x4 k0 k1 k2 k3 q0 q1 q2 q3 q4 q5 q6 lk lc lx
         go_wp2_with (fail)
         go_roundw
         case rel => exact ⟨j + 1, by omega, by go_num, HBk.out⟩
         case measure => simp [intOf]; omega
        ·obtain rfl : j = nh := by omega
         have hnj : ¬ (j : Int) < (j : Int) := by omega
         have HPn : Hid (Ply w0 wr X c Lp (.slice am nm cm) S2 S0) := ⟨HEt.out.on HBj.out, HLt.out.on HBj.out, HGj.out⟩
         clear HEt HLt HGt HBj HGj
         go_wp2_with (fail)
         go_roundw
         case rel => exact ⟨k + 1, Lp, (.slice am nm cm), S2, by omega, rfl, by go_num, HPn.out⟩
         case measure => simp [intOf]; omega
     ·have hE1 : (E == 0) = false := by simpa using hE0
      have HLt : Hid (Lx W5 X S2 (.slice au nu cu) Lp) := HUt.out hE0
      clear HMt HUt
      as_aux_lemma =>
       go_wp2_with (fail)
       go_loopw [18] (fun vn wr => ∃ j : Nat, j ≤ nh ∧ vn = .int .i64 j ∧ Hid (Below W5.heap.size W5 wr)) (fun vn _ => nh - (intOf vn).toNat)
       case atStart => exact ⟨0, Nat.zero_le _, rfl, Below.refl _ _⟩
       case round =>
        obtain ⟨j, hj, rfl, HBj⟩ := hrel
        have HGj : Hid (Gro w0 wr X S2 S0) := HGt.out.on HBj.out
        by_cases hlj : j < nh
        ·have hlj' : j < hds.length := by rw [← Hnh.out]; exact hlj
         have hlji : (j : Int) < (nh : Int) := by omega
         have HBe2 : Below we.heap.size we wr := HGj.out.grs.below HB0e.out HB0e.out.size HXe.out (fun k e => (HS0.out k e).1)
         obtain ⟨gh, oh, rfl, hrg⟩ := HH.out.rng wr HBe2 j hlj'
         have ohd := HHo.out _ (List.getElem_mem hlj')
         generalize hds[j]'hlj' = hd at hrg ohd
         have x0 : wr.cell? ⟨gh, oh + j * 5, none⟩ = some (.int .u32 hd.s) := hrg 0 _ rfl
         have x1 : wr.cell? ⟨gh, oh + j * 5 + 1, none⟩ = some (.int .u32 hd.d) := hrg 1 _ rfl
         have x2 : wr.cell? ⟨gh, oh + j * 5 + 2, none⟩ = some (.int .u16 hd.p) := hrg 2 _ rfl
         have x3 : wr.cell? ⟨gh, oh + j * 5 + 3, none⟩ = some (.int .u16 hd.q) := hrg 3 _ rfl
         have x4 : wr.cell? ⟨gh, oh + j * 5 + 4, none⟩ = some (.int .u8 hd.r) := hrg 4 _ rfl
         have Kk : wr.heap[w.heap.size]? = some (.cells #[.func (.func 23) #[] #[], .func (.func 24) #[] #[], .int .i64 0, .func (.func 10) #[] #[]] 52 (0, 0)) := (HGj.out.grs.block _ (blk_lt Kk0.out) (by have := HXw.out; omega) (fun e => by have := HS0.out _ e; omega)).trans Kk0.out
         have Kc : wr.heap[w.heap.size + 1]? = some (.cells #[.int .i64 c.m, .int .i64 c.a, .int .i64 c.p, .int .i64 c.g, .int .i64 c.t, .int .i64 c.b, .int .i64 c.d] 24 (0, 0)) := (HGj.out.grs.block _ (blk_lt Kc0.out) (by have := HXw.out; omega) (fun e => by have := HS0.out _ e; omega)).trans Kc0.out
         obtain ⟨k0, k1, k2, k3⟩ := blk4 Kk
         obtain ⟨q0, q1, q2, q3, q4, q5, q6⟩ := blk7 Kc
         have lk := blk_lt Kk
         have lc := blk_lt Kc
         have lx := World.block_lt_of_cell? wr _ x0
         have hAs : ∀ W9, Below wr.heap.size wr W9 → Calls Tryz.prog 32 #[.agg #[.func (.func 23) #[] #[], .func (.func 24) #[] #[], .int .i64 0, .func (.func 10) #[] #[]], .iface 31 (.pointer (some ⟨X, 0, none⟩)), .agg #[.int .i64 c.m, .int .i64 c.a, .int .i64 c.p, .int .i64 c.g, .int .i64 c.t, .int .i64 c.b, .int .i64 c.d], (.slice au nu cu), .agg #[.int .u32 hd.s, .int .u32 hd.d, .int .u16 hd.p, .int .u16 hd.q, .int .u8 hd.r]] W9 fun e w9 => e = .returned (.bool true) ∧ Below W9.heap.size W9 w9 := fun W9 hb => askedC X c Lp S2 (.slice au nu cu) hd W9 (HEt.out.on (HBj.out.trans (hb.mono HBj.out.size))) (HLt.out.1.keep (HBj.out.trans (hb.mono HBj.out.size))) ohd
         clear hrg HBe2 Kk Kc
         go_upto_region 33 with (fail)
         have kne : Nonempty (Kin (wr)) := ⟨⟨_, Below.refl _ _⟩⟩
         have kc0 : ∀ y : Kin (wr), y.val.cell? ⟨w.heap.size, 0, none⟩ = some (.func (.func 23) #[] #[]) := kcL
         have kc1 : ∀ y : Kin (wr), y.val.cell? ⟨w.heap.size, 1, none⟩ = some (.func (.func 24) #[] #[]) := kcL
         have kc2 : ∀ y : Kin (wr), y.val.cell? ⟨w.heap.size, 2, none⟩ = some (.int .i64 0) := kcL
         have kc3 : ∀ y : Kin (wr), y.val.cell? ⟨w.heap.size, 3, none⟩ = some (.func (.func 10) #[] #[]) := kcL
         have kc4 : ∀ y : Kin (wr), y.val.cell? ⟨w.heap.size + 1, 0, none⟩ = some (.int .i64 c.m) := kcL
         have kc5 : ∀ y : Kin (wr), y.val.cell? ⟨w.heap.size + 1, 1, none⟩ = some (.int .i64 c.a) := kcL
         have kc6 : ∀ y : Kin (wr), y.val.cell? ⟨w.heap.size + 1, 2, none⟩ = some (.int .i64 c.p) := kcL
         have kc7 : ∀ y : Kin (wr), y.val.cell? ⟨w.heap.size + 1, 3, none⟩ = some (.int .i64 c.g) := kcL
         have kc8 : ∀ y : Kin (wr), y.val.cell? ⟨w.heap.size + 1, 4, none⟩ = some (.int .i64 c.t) := kcL
         have kc9 : ∀ y : Kin (wr), y.val.cell? ⟨w.heap.size + 1, 5, none⟩ = some (.int .i64 c.b) := kcL
         have kc10 : ∀ y : Kin (wr), y.val.cell? ⟨w.heap.size + 1, 6, none⟩ = some (.int .i64 c.d) := kcL
         have kc11 : ∀ y : Kin (wr), y.val.cell? ⟨gh, oh + j * 5, none⟩ = some (.int .u32 hd.s) := kcL
         have kc12 : ∀ y : Kin (wr), y.val.cell? ⟨gh, oh + j * 5 + 1, none⟩ = some (.int .u32 hd.d) := kcL
         have kc13 : ∀ y : Kin (wr), y.val.cell? ⟨gh, oh + j * 5 + 2, none⟩ = some (.int .u16 hd.p) := kcL
         have kc14 : ∀ y : Kin (wr), y.val.cell? ⟨gh, oh + j * 5 + 3, none⟩ = some (.int .u16 hd.q) := kcL
         have kc15 : ∀ y : Kin (wr), y.val.cell? ⟨gh, oh + j * 5 + 4, none⟩ = some (.int .u8 hd.r) := kcL
         refine wp_region_kin (wr) (Below.refl _ _) (by kernel_rfl) (by kernel_rfl) ?_
         repeat (go_big_quiet_step (first | (go_at_call 32; exact kin_call (hAs _ (Kin.is _)))))
         refine wpQuiet_nil ?_
         rintro wq ⟨⟨xq, hxq⟩, hyq⟩
         have hq : Below (wr).heap.size (wr) wq := by rw [hyq]; exact hxq
         clear hyq hxq xq
         clear kne kc0 kc1 kc2 kc3 kc4 kc5 kc6 kc7 kc8 kc9 kc10 kc11 kc12 kc13 kc14 kc15
         obtain ⟨hcq, hfq⟩ := bcell hq
         have hzq := hq.size
         try simp at hzq
         have HBk : Hid (Below W5.heap.size W5 wq) := HBj.out.trans (hq.mono HBj.out.size)
         clear hq hcq hfq hzq hAs x0 x1 x2 x3 x4 k0 k1 k2 k3 q0 q1 q2 q3 q4 q5 q6 lk lc lx
         go_wp2_with (fail)
         go_roundw
         case rel => exact ⟨j + 1, by omega, by go_num, HBk.out⟩
         case measure => simp [intOf]; omega
        ·obtain rfl : j = nh := by omega
         have hnj : ¬ (j : Int) < (j : Int) := by omega
         have HPn : Hid (Ply w0 wr X c Lp (.slice au nu cu) S2 S0) := ⟨HEt.out.on HBj.out, HLt.out.on HBj.out, HGj.out⟩
         clear HEt HLt HGt HBj HGj
         go_wp2_with (fail)
         go_roundw
         case rel => exact ⟨k + 1, Lp, (.slice au nu cu), S2, by omega, rfl, by go_num, HPn.out⟩
         case measure => simp [intOf]; omega
   have h1' : (o.k == 1) = false := by simpa using h1
   have h2' : (o.k == 2) = false := by simpa using h2
   have h4' : (o.k == 4) = false := by simpa using h4
   as_aux_lemma =>
    have hAs := askedC X c L S (.slice au nu cu) o.h W1 HE1.out HL1.out.1 HBo.out.2.2.2.2.1
    have Kk : W1.heap[w.heap.size]? = some (.cells #[.func (.func 23) #[] #[], .func (.func 24) #[] #[], .int .i64 0, .func (.func 10) #[] #[]] 52 (0, 0)) := (HG1.out.grs.block _ (blk_lt Kk0.out) (by have := HXw.out; omega) (fun e => by have := HS0.out _ e; omega)).trans Kk0.out
    have Kc : W1.heap[w.heap.size + 1]? = some (.cells #[.int .i64 c.m, .int .i64 c.a, .int .i64 c.p, .int .i64 c.g, .int .i64 c.t, .int .i64 c.b, .int .i64 c.d] 24 (0, 0)) := (HG1.out.grs.block _ (blk_lt Kc0.out) (by have := HXw.out; omega) (fun e => by have := HS0.out _ e; omega)).trans Kc0.out
    obtain ⟨k0, k1, k2, k3⟩ := blk4 Kk
    obtain ⟨q0, q1, q2, q3, q4, q5, q6⟩ := blk7 Kc
    have lk := blk_lt Kk
    have lc := blk_lt Kc
    have y15 : W1.cell? ⟨wr.heap.size, 15, none⟩ = some (.int .u32 o.h.s) := blk_cell KO1.out rfl
    have y16 : W1.cell? ⟨wr.heap.size, 16, none⟩ = some (.int .u32 o.h.d) := blk_cell KO1.out rfl
    have y17 : W1.cell? ⟨wr.heap.size, 17, none⟩ = some (.int .u16 o.h.p) := blk_cell KO1.out rfl
    have y18 : W1.cell? ⟨wr.heap.size, 18, none⟩ = some (.int .u16 o.h.q) := blk_cell KO1.out rfl
    have y19 : W1.cell? ⟨wr.heap.size, 19, none⟩ = some (.int .u8 o.h.r) := blk_cell KO1.out rfl
    clear Kk Kc
    go_wp2_with (go_at_call 32; fail)
    refine hAs.mono ?_
    rintro e W2 ⟨rfl, hb2⟩
    have HEt : Hid (Eng W2 X c L S) := HE1.out.on hb2
    have HGt : Hid (Gro w0 W2 X S S0) := HG1.out.on hb2
    have HLt : Hid (Lx W2 X S (.slice au nu cu) L) := HL1.out.on hb2
    clear hAs hb2 HE1 HG1 HL1 KO1 k0 k1 k2 k3 q0 q1 q2 q3 q4 q5 q6 lk lc y15 y16 y17 y18 y19
    as_aux_lemma =>
     go_wp2_with (fail)
     go_loopw [18] (fun vn wr => ∃ j : Nat, j ≤ nh ∧ vn = .int .i64 j ∧ Hid (Below W2.heap.size W2 wr)) (fun vn _ => nh - (intOf vn).toNat)
     case atStart => exact ⟨0, Nat.zero_le _, rfl, Below.refl _ _⟩
     case round =>
      obtain ⟨j, hj, rfl, HBj⟩ := hrel
      have HGj : Hid (Gro w0 wr X S S0) := HGt.out.on HBj.out
      by_cases hlj : j < nh
      ·have hlj' : j < hds.length := by rw [← Hnh.out]; exact hlj
       have hlji : (j : Int) < (nh : Int) := by omega
       have HBe2 : Below we.heap.size we wr := HGj.out.grs.below HB0e.out HB0e.out.size HXe.out (fun k e => (HS0.out k e).1)
       obtain ⟨gh, oh, rfl, hrg⟩ := HH.out.rng wr HBe2 j hlj'
       have ohd := HHo.out _ (List.getElem_mem hlj')
       generalize hds[j]'hlj' = hd at hrg ohd
       have x0 : wr.cell? ⟨gh, oh + j * 5, none⟩ = some (.int .u32 hd.s) := hrg 0 _ rfl
       have x1 : wr.cell? ⟨gh, oh + j * 5 + 1, none⟩ = some (.int .u32 hd.d) := hrg 1 _ rfl
       have x2 : wr.cell? ⟨gh, oh + j * 5 + 2, none⟩ = some (.int .u16 hd.p) := hrg 2 _ rfl
       have x3 : wr.cell? ⟨gh, oh + j * 5 + 3, none⟩ = some (.int .u16 hd.q) := hrg 3 _ rfl
       have x4 : wr.cell? ⟨gh, oh + j * 5 + 4, none⟩ = some (.int .u8 hd.r) := hrg 4 _ rfl
       have Kk : wr.heap[w.heap.size]? = some (.cells #[.func (.func 23) #[] #[], .func (.func 24) #[] #[], .int .i64 0, .func (.func 10) #[] #[]] 52 (0, 0)) := (HGj.out.grs.block _ (blk_lt Kk0.out) (by have := HXw.out; omega) (fun e => by have := HS0.out _ e; omega)).trans Kk0.out
       have Kc : wr.heap[w.heap.size + 1]? = some (.cells #[.int .i64 c.m, .int .i64 c.a, .int .i64 c.p, .int .i64 c.g, .int .i64 c.t, .int .i64 c.b, .int .i64 c.d] 24 (0, 0)) := (HGj.out.grs.block _ (blk_lt Kc0.out) (by have := HXw.out; omega) (fun e => by have := HS0.out _ e; omega)).trans Kc0.out
       obtain ⟨k0, k1, k2, k3⟩ := blk4 Kk
       obtain ⟨q0, q1, q2, q3, q4, q5, q6⟩ := blk7 Kc
       have lk := blk_lt Kk
       have lc := blk_lt Kc
       have lx := World.block_lt_of_cell? wr _ x0
       have hAs : ∀ W9, Below wr.heap.size wr W9 → Calls Tryz.prog 32 #[.agg #[.func (.func 23) #[] #[], .func (.func 24) #[] #[], .int .i64 0, .func (.func 10) #[] #[]], .iface 31 (.pointer (some ⟨X, 0, none⟩)), .agg #[.int .i64 c.m, .int .i64 c.a, .int .i64 c.p, .int .i64 c.g, .int .i64 c.t, .int .i64 c.b, .int .i64 c.d], (.slice au nu cu), .agg #[.int .u32 hd.s, .int .u32 hd.d, .int .u16 hd.p, .int .u16 hd.q, .int .u8 hd.r]] W9 fun e w9 => e = .returned (.bool true) ∧ Below W9.heap.size W9 w9 := fun W9 hb => askedC X c L S (.slice au nu cu) hd W9 (HEt.out.on (HBj.out.trans (hb.mono HBj.out.size))) (HLt.out.1.keep (HBj.out.trans (hb.mono HBj.out.size))) ohd
       clear hrg HBe2 Kk Kc
       go_upto_region 33 with (fail)
       have kne : Nonempty (Kin (wr)) := ⟨⟨_, Below.refl _ _⟩⟩
       have kc0 : ∀ y : Kin (wr), y.val.cell? ⟨w.heap.size, 0, none⟩ = some (.func (.func 23) #[] #[]) := kcL
       have kc1 : ∀ y : Kin (wr), y.val.cell? ⟨w.heap.size, 1, none⟩ = some (.func (.func 24) #[] #[]) := kcL
       have kc2 : ∀ y : Kin (wr), y.val.cell? ⟨w.heap.size, 2, none⟩ = some (.int .i64 0) := kcL
       have kc3 : ∀ y : Kin (wr), y.val.cell? ⟨w.heap.size, 3, none⟩ = some (.func (.func 10) #[] #[]) := kcL
       have kc4 : ∀ y : Kin (wr), y.val.cell? ⟨w.heap.size + 1, 0, none⟩ = some (.int .i64 c.m) := kcL
       have kc5 : ∀ y : Kin (wr), y.val.cell? ⟨w.heap.size + 1, 1, none⟩ = some (.int .i64 c.a) := kcL
       have kc6 : ∀ y : Kin (wr), y.val.cell? ⟨w.heap.size + 1, 2, none⟩ = some (.int .i64 c.p) := kcL
       have kc7 : ∀ y : Kin (wr), y.val.cell? ⟨w.heap.size + 1, 3, none⟩ = some (.int .i64 c.g) := kcL
       have kc8 : ∀ y : Kin (wr), y.val.cell? ⟨w.heap.size + 1, 4, none⟩ = some (.int .i64 c.t) := kcL
       have kc9 : ∀ y : Kin (wr), y.val.cell? ⟨w.heap.size + 1, 5, none⟩ = some (.int .i64 c.b) := kcL
       have kc10 : ∀ y : Kin (wr), y.val.cell? ⟨w.heap.size + 1, 6, none⟩ = some (.int .i64 c.d) := kcL
       have kc11 : ∀ y : Kin (wr), y.val.cell? ⟨gh, oh + j * 5, none⟩ = some (.int .u32 hd.s) := kcL
       have kc12 : ∀ y : Kin (wr), y.val.cell? ⟨gh, oh + j * 5 + 1, none⟩ = some (.int .u32 hd.d) := kcL
       have kc13 : ∀ y : Kin (wr), y.val.cell? ⟨gh, oh + j * 5 + 2, none⟩ = some (.int .u16 hd.p) := kcL
       have kc14 : ∀ y : Kin (wr), y.val.cell? ⟨gh, oh + j * 5 + 3, none⟩ = some (.int .u16 hd.q) := kcL
       have kc15 : ∀ y : Kin (wr), y.val.cell? ⟨gh, oh + j * 5 + 4, none⟩ = some (.int .u8 hd.r) := kcL
       refine wp_region_kin (wr) (Below.refl _ _) (by kernel_rfl) (by kernel_rfl) ?_
       repeat (go_big_quiet_step (first | (go_at_call 32; exact kin_call (hAs _ (Kin.is _)))))
       refine wpQuiet_nil ?_
       rintro wq ⟨⟨xq, hxq⟩, hyq⟩
       have hq : Below (wr).heap.size (wr) wq := by rw [hyq]; exact hxq
       clear hyq hxq xq
       clear kne kc0 kc1 kc2 kc3 kc4 kc5 kc6 kc7 kc8 kc9 kc10 kc11 kc12 kc13 kc14 kc15
       obtain ⟨hcq, hfq⟩ := bcell hq
       have hzq := hq.size
       try simp at hzq
       have HBk : Hid (Below W2.heap.size W2 wq) := HBj.out.trans (hq.mono HBj.out.size)
       clear hq hcq hfq hzq hAs x0 x1 x2 x3 x4 k0 k1 k2 k3 q0 q1 q2 q3 q4 q5 q6 lk lc lx
       go_wp2_with (fail)
       go_roundw
       case rel => exact ⟨j + 1, by omega, by go_num, HBk.out⟩
       case measure => simp [intOf]; omega
      ·obtain rfl : j = nh := by omega
       have hnj : ¬ (j : Int) < (j : Int) := by omega
       have HPn : Hid (Ply w0 wr X c L (.slice au nu cu) S S0) := ⟨HEt.out.on HBj.out, HLt.out.on HBj.out, HGj.out⟩
       clear HEt HLt HGt HBj HGj
       go_wp2_with (fail)
       go_roundw
       case rel => exact ⟨k + 1, L, (.slice au nu cu), S, by omega, rfl, by go_num, HPn.out⟩
       case measure => simp [intOf]; omega
  ·obtain rfl : k = n := by omega
   have hni : ¬ (k : Int) < (k : Int) := by omega
   go_wp2_with (fail)
   go_ret
   exact ⟨rfl, Grs.pre HB0.out HP.out.2.2.grs⟩
end Go.Proofs.YtgokmkholjfhbaaGreat
