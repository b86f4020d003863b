/-
  PkBT: CqRi, one behind the other (tools/pack.py).
-/
import Derived.Test.YtgokmkholjfhbaaGreatPkBS
import Derived.Test.YtgokmkholjfhbaaGreatPkAE
set_option linter.unusedVariables false
set_option linter.unusedSimpArgs false
namespace Go.Proofs.YtgokmkholjfhbaaGreat
open Go.RowKit
theorem wpList_cut {P : Program} {ops : Array Oper} {rest : List Oper} {op : Oper} {a : Act} {w : World} {Q : Exit → Act → World → Prop} (hgd : op.guard = none) (ty : TypeId) (x : Operand) (lo hi mx : Option Operand) (ho : op.op = .slice ty x lo hi mx) (v : Value)
  (hr : (Instr.sliceAt ty (a.eval x) (lo.map a.eval) (hi.map a.eval) (mx.map a.eval)).run P w = .ok v w) (hk : wpList P ops Q rest (a.put op.dst v) w) : wpList P ops Q (op :: rest) a w := by
 refine wpList_plain hgd fun K hK => ?_
 unfold Oper.wp execOp
 simp only [ho, Sem.run_bind, hr, Result.andThen_ok, Sem.run_pure]
 exact hK _ _ hk
theorem wpList_move {P : Program} {ops : Array Oper} {rest : List Oper} {op : Oper} {a : Act} {w : World} {Q : Exit → Act → World → Prop} (hgd : op.guard = none) (x : Operand) (ho : op.op = .move x) (v : Value) (hx : a.eval x = v)
  (hk : wpList P ops Q rest (a.put op.dst v) w) : wpList P ops Q (op :: rest) a w := by
 refine wpList_plain hgd fun K hK => ?_
 unfold Oper.wp execOp
 simp only [ho, hx, Sem.run_bind, Result.andThen_ok, Sem.run_pure]
 exact hK _ _ hk
theorem wpList_assign {P : Program} {ops : Array Oper} {rest : List Oper} {op : Oper} {a : Act} {w : World} {Q : Exit → Act → World → Prop} (hgd : op.guard = none) (x : Operand) (ho : op.op = .assign x) (v : Value) (hx : a.eval x = v)
  (hk : wpList P ops Q rest (a.put op.dst v) w) : wpList P ops Q (op :: rest) a w := by
 refine wpList_plain hgd fun K hK => ?_
 unfold Oper.wp execOp
 simp only [ho, hx, Sem.run_bind, Result.andThen_ok, Sem.run_pure]
 exact hK _ _ hk
theorem wpList_add1 {ops : Array Oper} {rest : List Oper} {op : Oper} {a : Act} {w : World} {Q : Exit → Act → World → Prop} (hgd : op.guard = none) (x : Operand) (ho : op.op = .binOp .add 3 x (.const (.int .i64 1)) 3) (k : Int) (hx : a.eval x = .int .i64 k) (hw : IntKind.i64.wrap (k + 1) = k + 1)
  (hk : wpList Tryz.prog ops Q rest (a.put op.dst (.int .i64 (k + 1))) w) : wpList Tryz.prog ops Q (op :: rest) a w := by
 refine wpList_plain hgd fun K hK => ?_
 have hc : a.eval (.const (.int .i64 1)) = .int .i64 1 := rfl
 have hb : Sem.run Tryz.prog (binOp .add 3 (.int .i64 k) (.int .i64 1)) w = .ok (.int .i64 (k + 1)) w := by simp [go_sem, hw]
 have hg : Sem.run Tryz.prog (eqGuard BinOp.add 3 x (.const (.int .i64 1)) (.int .i64 k) (.int .i64 1)) w = .ok () w := by simp [eqGuard]
 unfold Oper.wp execOp
 simp only [ho, hx, hc, Sem.run_bind, hg, hb, Result.andThen_ok, Sem.run_pure]
 exact hK _ _ hk
def Outc (w w' : World) (u v' : Value) (l' : List Ru) : Prop := SrcU w' v' l' ∧ (v' = u ∨ ∀ k, v'.ownBlock = some k → w.heap.size ≤ k ∧ k < w'.heap.size)
theorem SrcU.cut0 {w : World} {ad : Option Addr} {n cap : Nat} {l : List Ru} (h : SrcU w (.slice ad n cap) l) (p : Nat) (hp : p ≤ l.length) : SrcU w (.slice ad p cap) (l.take p) := by
 have := h.cut 0 p (Nat.zero_le _) hp
 rw [cutU_zero, List.drop_zero] at this
 exact this
theorem SrcU.cutD {w : World} {ad : Option Addr} {n cap : Nat} {l : List Ru} (h : SrcU w (.slice ad n cap) l) (hn : n = l.length) (p : Nat) (hp : p ≤ n) : SrcU w (cutU ad p n cap) (l.drop p) := by
 have := h.cut p n hp (by omega)
 rw [List.take_of_length_le (by omega)] at this
 exact this
set_option maxRecDepth 20000 in
set_option maxHeartbeats 8000000 in
theorem rinsOk (u : Value) (l : List Ru) (M : Int) (p : Nat) (R : Ru) (w : World) (hs : SrcU w u l) (hl : l.length ≤ 200000) (b : BdR R) (hJ0 : joinE l R = 0) (hp : p ≤ l.length) (hm : (l.length : Int) < M) :
  Calls Tryz.prog 25 #[u, .int .i64 M, .int .i64 p, .agg #[.int .i64 R.i, .int .u32 R.s, .int .i64 R.sl, .int .u32 R.d, .int .i64 R.dl, .int .u16 R.p.1, .int .u16 R.p.2, .int .u16 R.q.1, .int .u16 R.q.2, .int .u8 R.m.1, .int .u8 R.m.2, .int .i64 R.act]] w fun e w' => ∃ v', e = .returned (.tuple #[v', .int .i64 0]) ∧ RowU w' w.heap.size v' (putL l p R) ∧ Below w.heap.size w w' := by
 have hC := rcheckR R (w.alloc (.cells #[.int .i64 R.i, .int .u32 R.s, .int .i64 R.sl, .int .u32 R.d, .int .i64 R.dl, .int .u16 R.p.1, .int .u16 R.p.2, .int .u16 R.q.1, .int .u16 R.q.2, .int .u8 R.m.1, .int .u8 R.m.2, .int .i64 R.act] 64)) b
 obtain ⟨j1, j2⟩ := joinE_ok.1 hJ0
 rw [j1] at hC
 have HF : Hid (∀ W, Below w.heap.size w W → Calls Tryz.prog 40 #[u, .int .i64 R.i] W fun e w' => e = .returned (.int .i64 (-1)) ∧ Below W.heap.size W w') := fun W hb => by
  have := rfindC u l R.i W (hs.keep hb) hl
  rw [j2] at this
  exact this
 have HL : Hid ((([] ++ l.take p) ++ [R]) ++ l.drop p = putL l p R) := by show _ = _; unfold putL; simp
 have HS : Hid (SrcU w u l) := hs
 generalize (errs R).2 = d at *
 obtain ⟨ad, cap, rfl, hcap, hat⟩ := hs
 obtain ⟨n, hn⟩ : ∃ n, n = l.length := ⟨_, rfl⟩
 have Hn : Hid (n = l.length) := hn
 rw [← hn] at hl hcap HF HS hp hm ⊢
 clear hat hn hJ0 j1 j2 b
 have hn0 : (n : Int) ≤ 200000 := by omega
 have hp1 : ¬ (p : Int) < 0 := by omega
 have hp2 : ¬ (n : Int) < (p : Int) := by omega
 have hm2 : ¬ M ≤ (n : Int) := by omega
 have hpc : p ≤ cap := by omega
 go_enter Tryz.func25, Tryz.ntmps25
 go_wp2_with (fail)
 refine hC.mono ?_
 rintro e W1 ⟨rfl, hb1⟩
 have HB1 : Hid (Below w.heap.size w W1) := ((Below.refl _ _).alloc (Nat.le_refl _) _).trans (hb1.mono (by simp))
 have HQ1 : Hid (W1.heap[w.heap.size]? = some (.cells #[.int .i64 R.i, .int .u32 R.s, .int .i64 R.sl, .int .u32 R.d, .int .i64 R.dl, .int .u16 R.p.1, .int .u16 R.p.2, .int .u16 R.q.1, .int .u16 R.q.2, .int .u8 R.m.1, .int .u8 R.m.2, .int .i64 R.act] 64)) := blk_on (blk_new w _) hb1
 obtain ⟨d0, d1, d2, d3, d4, d5, d6, d7, d8, d9, d10, d11⟩ := blk12 HQ1.out
 clear hb1 hC
 go_wp2_with (fail)
 refine (HF.out _ HB1.out).mono ?_
 rintro e W2 ⟨rfl, hb2⟩
 have HB2 : Hid (Below w.heap.size w W2) := HB1.out.trans (hb2.mono HB1.out.size)
 have HQ2 : Hid (W2.heap[w.heap.size]? = some (.cells #[.int .i64 R.i, .int .u32 R.s, .int .i64 R.sl, .int .u32 R.d, .int .i64 R.dl, .int .u16 R.p.1, .int .u16 R.p.2, .int .u16 R.q.1, .int .u16 R.q.2, .int .u8 R.m.1, .int .u8 R.m.2, .int .i64 R.act] 64)) := blk_on HQ1.out hb2
 clear hb2 d0 d1 d2 d3 d4 d5 d6 d7 d8 d9 d10 d11 HF HQ1 HB1
 clear W1
 have HSrc : Hid (∀ W, Below W2.heap.size W2 W → SrcU W (.slice ad n cap) l) := fun W hb => (HS.out.keep HB2.out).keep hb
 have HZ0 : Hid (Below W2.heap.size W2 W2) := Below.refl _ _
 go_upto_region 11 with (fail)
 refine wp_region_lit ?_
 refine wpList_move rfl (.tmp 12) rfl (.slice none 0 0) rfl ?_
 simp only [nrm]
 refine wpList_move rfl (.tmp 0) rfl (.slice ad n cap) rfl ?_
 simp only [nrm]
 refine wpList_move rfl (.tmp 2) rfl (.int .i64 p) rfl ?_
 simp only [nrm]
 refine wpList_cut rfl 56 (.tmp 47) none (some (.tmp 48)) none rfl (.slice ad (p) cap) (cut_h' _ ad (n) cap (p) _ (rfl) (by omega)) ?_
 simp only [nrm]
 refine wpList_appendSU rfl (.tmp 46) (.tmp 49) rfl W2.heap.size (.slice none 0 0) [] rfl (RowU.nil _ _) (.slice ad p cap) (l.take p) rfl ((HSrc.out _ HZ0.out).cut0 p (by rw [← Hn.out]; exact hp)) (by first | exact Nat.le_refl _ | (have := HZ0.out.size; first | omega | (simp; omega))) (by have := Hn.out; first | (simp; omega) | (simp [List.length_append, List.length_take]; omega)) ?_
 intro v1 w1 hr1 hg1 ha1
 simp only [nrm]
 refine wpList_assign rfl (.tmp 50) rfl (v1) rfl ?_
 simp only [nrm]
 refine wpList_nil ?_
 have HR1 : Hid (RowU w1 W2.heap.size v1 ([] ++ l.take p)) := hr1
 have HZ1 : Hid (Below W2.heap.size W2 w1) := bel_grownU HZ0.out (RowU.nil _ _) hg1 (Nat.le_refl _) (Nat.le_refl _)
 clear hr1 hg1 ha1
 have hz1 := HZ1.out.size
 have HRb : Hid (w1.heap[w.heap.size]? = some (.cells #[.int .i64 R.i, .int .u32 R.s, .int .i64 R.sl, .int .u32 R.d, .int .i64 R.dl, .int .u16 R.p.1, .int .u16 R.p.2, .int .u16 R.q.1, .int .u16 R.q.2, .int .u8 R.m.1, .int .u8 R.m.2, .int .i64 R.act] 64)) := by show _ = _; rw [HZ1.out.block _ (blk_lt HQ2.out)]; exact HQ2.out
 obtain ⟨d0, d1, d2, d3, d4, d5, d6, d7, d8, d9, d10, d11⟩ := blk12 HRb.out
 go_upto_region 13 with ((at_builtin; refine wpList_appendSU rfl (.tmp 51) (.tmp 53) rfl W2.heap.size v1 ([] ++ l.take p) rfl (HR1.out.alloc _) _ [R] rfl (RowU.one w1 0 R (Nat.zero_le _)).src (by first | exact Nat.le_refl _ | (have := HZ1.out.size; first | omega | (simp; omega))) (by have := Hn.out; first | (simp; omega) | (simp [List.length_append, List.length_take]; omega)) ?_; intro v2 w2 hr2 hg2 ha2))
 have HZa : Hid (Below W2.heap.size W2 (w1.alloc (.cells #[.int .i64 R.i, .int .u32 R.s, .int .i64 R.sl, .int .u32 R.d, .int .i64 R.dl, .int .u16 R.p.1, .int .u16 R.p.2, .int .u16 R.q.1, .int .u16 R.q.2, .int .u8 R.m.1, .int .u8 R.m.2, .int .i64 R.act] 64))) := HZ1.out.alloc hz1 _
 have HR2 : Hid (RowU w2 W2.heap.size v2 (([] ++ l.take p) ++ [R])) := hr2
 have HZ2 : Hid (Below W2.heap.size W2 w2) := bel_grownU HZa.out (HR1.out.alloc _) hg2 (by simp; omega) (Nat.le_refl _)
 clear hr2 hg2 ha2
 clear d0 d1 d2 d3 d4 d5 d6 d7 d8 d9 d10 d11
 have hz2 := HZ2.out.size
 go_upto_region 13 with (fail)
 refine wp_region_lit ?_
 refine wpList_move rfl (.tmp 12) rfl (v2) rfl ?_
 simp only [nrm]
 refine wpList_move rfl (.tmp 0) rfl (.slice ad n cap) rfl ?_
 simp only [nrm]
 refine wpList_move rfl (.tmp 2) rfl (.int .i64 p) rfl ?_
 simp only [nrm]
 refine wpList_cut rfl 56 (.tmp 56) (some (.tmp 57)) none none rfl (cutU ad (p) (n) cap) (cut_l' _ ad (n) cap (p) _ (rfl) (by omega)) ?_
 simp only [nrm]
 refine wpList_appendSU rfl (.tmp 55) (.tmp 58) rfl W2.heap.size v2 (([] ++ l.take p) ++ [R]) rfl HR2.out (cutU ad p n cap) (l.drop p) rfl ((HSrc.out _ HZ2.out).cutD Hn.out p hp) (by first | exact Nat.le_refl _ | (have := HZ2.out.size; first | omega | (simp; omega))) (by have := Hn.out; first | (simp; omega) | (simp [List.length_append, List.length_take]; omega)) ?_
 intro v3 w3 hr3 hg3 ha3
 simp only [nrm]
 refine wpList_assign rfl (.tmp 59) rfl (v3) rfl ?_
 simp only [nrm]
 refine wpList_assign rfl (.const (.int .i64 0)) rfl (.int .i64 0) rfl ?_
 simp only [nrm]
 refine wpList_nil ?_
 have HR3 : Hid (RowU w3 W2.heap.size v3 ((([] ++ l.take p) ++ [R]) ++ l.drop p)) := hr3
 have HZ3 : Hid (Below W2.heap.size W2 w3) := bel_grownU HZ2.out HR2.out hg3 hz2 (Nat.le_refl _)
 clear hr3 hg3 ha3
 rw [HL.out] at HR3
 go_wp2_with (fail)
 refine bodyPost_ret (v := .tuple #[v3, .int .i64 0]) (by simp [results, Tryz.results25, go_sem]) rfl ?_
 exact ⟨v3, rfl, HR3.out.base HB2.out.size, HB2.out.trans (HZ3.out.mono HB2.out.size)⟩
set_option maxRecDepth 20000 in
set_option maxHeartbeats 4000000 in
theorem rinsNo (u : Value) (l : List Ru) (M p : Int) (R : Ru) (w : World) (hs : SrcU w u l) (hl : l.length ≤ 200000) (b : BdR R) (E : Int) (hE : insE l M p R = E) (h0 : E ≠ 0) :
  Calls Tryz.prog 25 #[u, .int .i64 M, .int .i64 p, .agg #[.int .i64 R.i, .int .u32 R.s, .int .i64 R.sl, .int .u32 R.d, .int .i64 R.dl, .int .u16 R.p.1, .int .u16 R.p.2, .int .u16 R.q.1, .int .u16 R.q.2, .int .u8 R.m.1, .int .u8 R.m.2, .int .i64 R.act]] w fun e w' => e = .returned (.tuple #[u, .int .i64 E]) ∧ Below w.heap.size w w' := by
 have hC := rcheckR R (w.alloc (.cells #[.int .i64 R.i, .int .u32 R.s, .int .i64 R.sl, .int .u32 R.d, .int .i64 R.dl, .int .u16 R.p.1, .int .u16 R.p.2, .int .u16 R.q.1, .int .u16 R.q.2, .int .u8 R.m.1, .int .u8 R.m.2, .int .i64 R.act] 64)) b
 have HF : Hid (∀ W, Below w.heap.size w W → Calls Tryz.prog 40 #[u, .int .i64 R.i] W fun e w' => e = .returned (.int .i64 (fnd l R.i)) ∧ Below W.heap.size W w') := fun W hb => rfindC u l R.i W (hs.keep hb) hl
 have HE : Hid (E = if (if (errs R).1 = 0 then (if 0 ≤ fnd l R.i then 111 else 0) else (errs R).1) = 0 then (if 0 ≤ p ∧ p ≤ l.length then (if M ≤ l.length then 113 else 0) else 112) else (if (errs R).1 = 0 then (if 0 ≤ fnd l R.i then 111 else 0) else (errs R).1)) := hE.symm
 generalize (errs R).1 = c at *
 generalize (errs R).2 = d at *
 generalize fnd l R.i = f at *
 obtain ⟨ad, cap, rfl, hcap, hat⟩ := hs
 obtain ⟨n, hn⟩ : ∃ n, n = l.length := ⟨_, rfl⟩
 rw [← hn] at hl hcap HF HE ⊢
 clear hat hn b hE
 have hn0 : (n : Int) ≤ 200000 := by omega
 by_cases hc : c = 0
 ·subst hc
  go_enter Tryz.func25, Tryz.ntmps25
  go_wp2_with (fail)
  refine hC.mono ?_
  rintro e W1 ⟨rfl, hb1⟩
  have HB1 : Hid (Below w.heap.size w W1) := ((Below.refl _ _).alloc (Nat.le_refl _) _).trans (hb1.mono (by simp))
  have HQ1 : Hid (W1.heap[w.heap.size]? = some (.cells #[.int .i64 R.i, .int .u32 R.s, .int .i64 R.sl, .int .u32 R.d, .int .i64 R.dl, .int .u16 R.p.1, .int .u16 R.p.2, .int .u16 R.q.1, .int .u16 R.q.2, .int .u8 R.m.1, .int .u8 R.m.2, .int .i64 R.act] 64)) := blk_on (blk_new w _) hb1
  obtain ⟨d0, d1, d2, d3, d4, d5, d6, d7, d8, d9, d10, d11⟩ := blk12 HQ1.out
  clear hb1 hC
  go_wp2_with (fail)
  refine (HF.out _ HB1.out).mono ?_
  rintro e W2 ⟨rfl, hb2⟩
  have HB2 : Hid (Below w.heap.size w W2) := HB1.out.trans (hb2.mono HB1.out.size)
  clear hb2 d0 d1 d2 d3 d4 d5 d6 d7 d8 d9 d10 d11 HF HQ1 HB1
  by_cases hf : 0 ≤ f
  ·have HV : Hid (E = 111) := by show _ = _; rw [HE.out]; simp [hf]
   clear HE
   go_wp2_with (fail)
   refine bodyPost_ret (v := .tuple #[.slice ad n cap, .int .i64 111]) (by simp [results, Tryz.results25, go_sem]) rfl ?_
   exact ⟨by rw [HV.out], HB2.out⟩
  ·by_cases hp1 : p < 0
   ·have HV : Hid (E = 112) := by show _ = _; rw [HE.out]; simp [hf]; omega
    clear HE
    go_wp2_with (fail)
    refine bodyPost_ret (v := .tuple #[.slice ad n cap, .int .i64 112]) (by simp [results, Tryz.results25, go_sem]) rfl ?_
    exact ⟨by rw [HV.out], HB2.out⟩
   ·by_cases hp2 : (n : Int) < p
    ·have HV : Hid (E = 112) := by show _ = _; rw [HE.out]; simp [hf]; omega
     clear HE
     go_wp2_with (fail)
     refine bodyPost_ret (v := .tuple #[.slice ad n cap, .int .i64 112]) (by simp [results, Tryz.results25, go_sem]) rfl ?_
     exact ⟨by rw [HV.out], HB2.out⟩
    ·by_cases hm : M ≤ (n : Int)
     ·have HV : Hid (E = 113) := by show _ = _; rw [HE.out]; simp [hf, hm]; omega
      clear HE
      go_wp2_with (fail)
      refine bodyPost_ret (v := .tuple #[.slice ad n cap, .int .i64 113]) (by simp [results, Tryz.results25, go_sem]) rfl ?_
      exact ⟨by rw [HV.out], HB2.out⟩
     ·exfalso
      apply h0
      rw [HE.out]
      simp [hf, hm]
      omega
 ·have HV : Hid (E = c) := by show _ = _; rw [HE.out]; simp [hc]
  have hc' : (c != 0) = true := by simpa using hc
  clear HE HF
  go_enter Tryz.func25, Tryz.ntmps25
  go_wp2_with (fail)
  refine hC.mono ?_
  rintro e W1 ⟨rfl, hb1⟩
  have HB1 : Hid (Below w.heap.size w W1) := ((Below.refl _ _).alloc (Nat.le_refl _) _).trans (hb1.mono (by simp))
  clear hb1 hC
  go_wp2_with (fail)
  refine bodyPost_ret (v := .tuple #[.slice ad n cap, .int .i64 c]) (by simp [results, Tryz.results25, go_sem]) rfl ?_
  exact ⟨by rw [HV.out], HB1.out⟩
theorem rinsC (u : Value) (l : List Ru) (M p : Int) (R : Ru) (w : World) (hs : SrcU w u l) (hl : l.length ≤ 200000) (b : BdR R) :
  Calls Tryz.prog 25 #[u, .int .i64 M, .int .i64 p, .agg #[.int .i64 R.i, .int .u32 R.s, .int .i64 R.sl, .int .u32 R.d, .int .i64 R.dl, .int .u16 R.p.1, .int .u16 R.p.2, .int .u16 R.q.1, .int .u16 R.q.2, .int .u8 R.m.1, .int .u8 R.m.2, .int .i64 R.act]] w fun e w' => ∃ v', e = .returned (.tuple #[v', .int .i64 (insE l M p R)]) ∧ Outc w w' u v' (insL l M p R) ∧ Below w.heap.size w w' := by
 by_cases h0 : insE l M p R = 0
 ·have e2 : insL l M p R = putL l p.toNat R := if_pos h0
  unfold insE at h0
  split at h0
  ·rename_i hJ
   split at h0
   ·rename_i hp
    split at h0
    ·cases h0
    ·rename_i hm
     have := rinsOk u l M p.toNat R w hs hl b hJ (by omega) (by omega)
     rw [Int.toNat_of_nonneg hp.1] at this
     rw [e2, show insE l M p R = 0 by unfold insE; rw [if_pos hJ, if_pos hp, if_neg hm]]
     exact this.mono fun e w' ⟨v', h1, h2, h3⟩ => ⟨v', h1, ⟨h2.src, .inr h2.lt⟩, h3⟩
   ·cases h0
  ·rename_i hJ; exact absurd h0 hJ
 ·have e2 : insL l M p R = l := if_neg h0
  rw [e2]
  exact (rinsNo u l M p R w hs hl b _ rfl h0).mono fun e w' ⟨h1, h2⟩ => ⟨u, h1, ⟨hs.keep h2, .inl rfl⟩, h2⟩
set_option maxRecDepth 20000 in
set_option maxHeartbeats 4000000 in
theorem rdelOk (u : Value) (l : List Ru) (x : Int) (k : Nat) (w : World) (hs : SrcU w u l) (hl : l.length ≤ 200000) (hf : fnd l x = (k : Int)) :
  Calls Tryz.prog 27 #[u, .int .i64 x] w fun e w' => ∃ v', e = .returned (.tuple #[v', .int .i64 0]) ∧ RowU w' w.heap.size v' (outL l k) ∧ Below w.heap.size w w' := by
 have hk : k < l.length := by rcases fnd_range l x with e | e <;> omega
 have hF := rfindC u l x w hs hl
 rw [hf] at hF
 have HL : Hid (([] ++ l.take k) ++ l.drop (k + 1) = outL l k) := by show _ = _; unfold outL; simp
 have HS : Hid (SrcU w u l) := hs
 obtain ⟨ad, cap, rfl, hcap, hat⟩ := hs
 obtain ⟨n, hn⟩ : ∃ n, n = l.length := ⟨_, rfl⟩
 have Hn : Hid (n = l.length) := hn
 rw [← hn] at hl hcap HS hk hF ⊢
 clear hat hn hf
 have hk0 : ¬ (k : Int) < 0 := by omega
 have hwk : IntKind.i64.wrap ((k : Int) + 1) = (k : Int) + 1 := by rw [IntKind.wrap_i64]; omega
 go_enter Tryz.func27, Tryz.ntmps27
 go_wp2_with (fail)
 refine hF.mono ?_
 rintro e W2 ⟨rfl, hb2⟩
 have HB2 : Hid (Below w.heap.size w W2) := hb2
 clear hb2 hF
 have HSrc : Hid (∀ W, Below W2.heap.size W2 W → SrcU W (.slice ad n cap) l) := fun W hb => (HS.out.keep HB2.out).keep hb
 have HZ0 : Hid (Below W2.heap.size W2 W2) := Below.refl _ _
 go_upto_region 5 with (fail)
 refine wp_region_lit ?_
 refine wpList_move rfl (.tmp 7) rfl (.slice none 0 0) rfl ?_
 simp only [nrm]
 refine wpList_move rfl (.tmp 0) rfl (.slice ad n cap) rfl ?_
 simp only [nrm]
 refine wpList_move rfl (.tmp 6) rfl (.int .i64 k) rfl ?_
 simp only [nrm]
 refine wpList_cut rfl 56 (.tmp 15) none (some (.tmp 16)) none rfl (.slice ad (k) cap) (cut_h' _ ad (n) cap (k) _ (rfl) (by omega)) ?_
 simp only [nrm]
 refine wpList_appendSU rfl (.tmp 14) (.tmp 17) rfl W2.heap.size (.slice none 0 0) [] rfl (RowU.nil _ _) (.slice ad k cap) (l.take k) rfl ((HSrc.out _ HZ0.out).cut0 k (by rw [← Hn.out]; omega)) (by first | exact Nat.le_refl _ | (have := HZ0.out.size; first | omega | (simp; omega))) (by have := Hn.out; first | (simp; omega) | (simp [List.length_append, List.length_take]; omega)) ?_
 intro v1 w1 hr1 hg1 ha1
 simp only [nrm]
 refine wpList_assign rfl (.tmp 18) rfl (v1) rfl ?_
 simp only [nrm]
 refine wpList_nil ?_
 have HR1 : Hid (RowU w1 W2.heap.size v1 ([] ++ l.take k)) := hr1
 have HZ1 : Hid (Below W2.heap.size W2 w1) := bel_grownU HZ0.out (RowU.nil _ _) hg1 (Nat.le_refl _) (Nat.le_refl _)
 clear hr1 hg1 ha1
 have hz1 := HZ1.out.size
 go_upto_region 6 with (fail)
 refine wp_region_lit ?_
 refine wpList_move rfl (.tmp 7) rfl (v1) rfl ?_
 simp only [nrm]
 refine wpList_move rfl (.tmp 0) rfl (.slice ad n cap) rfl ?_
 simp only [nrm]
 refine wpList_move rfl (.tmp 6) rfl (.int .i64 k) rfl ?_
 simp only [nrm]
 refine wpList_add1 rfl (.tmp 21) rfl ((k : Int)) rfl hwk ?_
 simp only [nrm]
 refine wpList_cut rfl 56 (.tmp 20) (some (.tmp 22)) none none rfl (cutU ad (k + 1) (n) cap) (cut_l' _ ad (n) cap (k + 1) _ (by first | rfl | omega) (by omega)) ?_
 simp only [nrm]
 refine wpList_appendSU rfl (.tmp 19) (.tmp 23) rfl W2.heap.size v1 ([] ++ l.take k) rfl HR1.out (cutU ad (k + 1) n cap) (l.drop (k + 1)) rfl ((HSrc.out _ HZ1.out).cutD Hn.out (k + 1) hk) (by first | exact Nat.le_refl _ | (have := HZ1.out.size; first | omega | (simp; omega))) (by have := Hn.out; first | (simp; omega) | (simp [List.length_append, List.length_take]; omega)) ?_
 intro v2 w2 hr2 hg2 ha2
 simp only [nrm]
 refine wpList_assign rfl (.tmp 24) rfl (v2) rfl ?_
 simp only [nrm]
 refine wpList_assign rfl (.const (.int .i64 0)) rfl (.int .i64 0) rfl ?_
 simp only [nrm]
 refine wpList_nil ?_
 have HR2 : Hid (RowU w2 W2.heap.size v2 (([] ++ l.take k) ++ l.drop (k + 1))) := hr2
 have HZ2 : Hid (Below W2.heap.size W2 w2) := bel_grownU HZ1.out HR1.out hg2 hz1 (Nat.le_refl _)
 clear hr2 hg2 ha2
 rw [HL.out] at HR2
 go_wp2_with (fail)
 refine bodyPost_ret (v := .tuple #[v2, .int .i64 0]) (by simp [results, Tryz.results27, go_sem]) rfl ?_
 exact ⟨v2, rfl, HR2.out.base HB2.out.size, HB2.out.trans (HZ2.out.mono HB2.out.size)⟩
theorem rdelC (u : Value) (l : List Ru) (x : Int) (w : World) (hs : SrcU w u l) (hl : l.length ≤ 200000) :
  Calls Tryz.prog 27 #[u, .int .i64 x] w fun e w' => ∃ v', e = .returned (.tuple #[v', .int .i64 (delE l x)]) ∧ Outc w w' u v' (delL l x) ∧ Below w.heap.size w w' := by
 rcases fnd_range l x with e | e
 ·have e1 : delE l x = 114 := if_neg (by omega)
  have e2 : delL l x = l := if_neg (by omega)
  rw [e1, e2]
  have hF := rfindC u l x w hs hl
  rw [e] at hF
  have HS : Hid (SrcU w u l) := hs
  obtain ⟨ad, cap, rfl, hcap, hat⟩ := hs
  obtain ⟨n, hn⟩ : ∃ n, n = l.length := ⟨_, rfl⟩
  rw [← hn] at hF HS ⊢
  clear hat hn e e1 e2
  go_enter Tryz.func27, Tryz.ntmps27
  go_wp2_with (fail)
  refine hF.mono ?_
  rintro e W2 ⟨rfl, hb2⟩
  have HB2 : Hid (Below w.heap.size w W2) := hb2
  clear hb2 hF
  go_wp2_with (fail)
  refine bodyPost_ret (v := .tuple #[.slice ad n cap, .int .i64 114]) (by simp [results, Tryz.results27, go_sem]) rfl ?_
  exact ⟨_, rfl, ⟨HS.out.keep HB2.out, .inl rfl⟩, HB2.out⟩
 ·have e1 : delE l x = 0 := if_pos e.1
  have e2 : delL l x = outL l (fnd l x).toNat := if_pos e.1
  rw [e1, e2]
  exact (rdelOk u l x (fnd l x).toNat w hs hl (by omega)).mono fun e w' ⟨v', h1, h2, h3⟩ => ⟨v', h1, ⟨h2.src, .inr h2.lt⟩, h3⟩
set_option maxHeartbeats 1000000 in
theorem rcopyC (v : Value) (l : List Ru) (w : World) (hs : SrcU w v l) (hl : l.length ≤ 200000) :
  Calls Tryz.prog 30 #[v] w fun e w' => ∃ v' : Value, e = .returned v' ∧ RowU w' w.heap.size v' l ∧ Below w.heap.size w w' := by
 obtain ⟨i0, hi, hz0, hz1, hz2⟩ := info_parts infoU
 have hmk := fun W => run_make (P := Tryz.prog) W 56 64 i0 _ Tryz.underlying56 hi hz0 .i64 .i64 l.length l.length (by omega) (Int.le_refl _) (by rw [hz2]; omega) (by omega)
 simp only [hz1, Int.toNat_natCast] at hmk
 obtain ⟨w1, hr, HR, HB⟩ := run_fillU w 3 v l hs hl #[.int .i64 0, .int .u32 0, .int .i64 0, .int .u32 0, .int .i64 0, .int .u16 0, .int .u16 0, .int .u16 0, .int .u16 0, .int .u8 0, .int .u8 0, .int .i64 0]
 have HR1 : Hid (RowU w1 w.heap.size (.slice (some ⟨w.heap.size, 0, none⟩) l.length l.length) l) := HR
 have HB1 : Hid (Below w.heap.size w w1) := HB
 obtain ⟨ad, cap, rfl, hcap, hat⟩ := hs
 clear hat HR HB hi hz0 hz1 hz2
 go_enter Tryz.func30, Tryz.ntmps30
 go_wp2_with (fail)
 go_ret
 exact ⟨_, rfl, HR1.out, HB1.out⟩
end Go.Proofs.YtgokmkholjfhbaaGreat
