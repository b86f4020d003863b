/-
  The document's Insert, Delete, Move and Copy of lists. Written by tools/mkTbRi.py.
-/
import Derived.Test.YtlghbcdahnjcpaaTbRs
namespace Go.Proofs.Ytlghbcdahnjcpaa
open Go.RowKit
set_option linter.unusedVariables false
set_option linter.unusedSimpArgs false

theorem wpList_cut {P : Program} {ops : Array Oper} {rest : List Oper} {op : Oper} {a : Act} {w : World} {Q : Exit → Act → World → Prop} (hgd : op.guard = none) (ty : TypeId) (x : Operand) (lo hi mx : Option Operand) (ho : op.op = .slice ty x lo hi mx) (v : Value)
    (hr : (Instr.sliceAt ty (a.eval x) (lo.map a.eval) (hi.map a.eval) (mx.map a.eval)).run P w = .ok v w) (hk : wpList P ops Q rest (a.put op.dst v) w) : wpList P ops Q (op :: rest) a w := by
  refine wpList_plain hgd fun K hK => ?_
  unfold Oper.wp execOp
  simp only [ho, Sem.run_bind, hr, Result.andThen_ok, Sem.run_pure]
  exact hK _ _ hk
theorem wpList_move {P : Program} {ops : Array Oper} {rest : List Oper} {op : Oper} {a : Act} {w : World} {Q : Exit → Act → World → Prop} (hgd : op.guard = none) (x : Operand) (ho : op.op = .move x) (v : Value) (hx : a.eval x = v)
    (hk : wpList P ops Q rest (a.put op.dst v) w) : wpList P ops Q (op :: rest) a w := by
  refine wpList_plain hgd fun K hK => ?_
  unfold Oper.wp execOp
  simp only [ho, hx, Sem.run_bind, Result.andThen_ok, Sem.run_pure]
  exact hK _ _ hk
theorem wpList_assign {P : Program} {ops : Array Oper} {rest : List Oper} {op : Oper} {a : Act} {w : World} {Q : Exit → Act → World → Prop} (hgd : op.guard = none) (x : Operand) (ho : op.op = .assign x) (v : Value) (hx : a.eval x = v)
    (hk : wpList P ops Q rest (a.put op.dst v) w) : wpList P ops Q (op :: rest) a w := by
  refine wpList_plain hgd fun K hK => ?_
  unfold Oper.wp execOp
  simp only [ho, hx, Sem.run_bind, Result.andThen_ok, Sem.run_pure]
  exact hK _ _ hk
theorem wpList_add1 {ops : Array Oper} {rest : List Oper} {op : Oper} {a : Act} {w : World} {Q : Exit → Act → World → Prop} (hgd : op.guard = none) (x : Operand) (ho : op.op = .binOp .add 3 x (.const (.int .i64 1)) 3) (k : Int) (hx : a.eval x = .int .i64 k) (hw : IntKind.i64.wrap (k + 1) = k + 1)
    (hk : wpList Try.prog ops Q rest (a.put op.dst (.int .i64 (k + 1))) w) : wpList Try.prog ops Q (op :: rest) a w := by
  refine wpList_plain hgd fun K hK => ?_
  have hc : a.eval (.const (.int .i64 1)) = .int .i64 1 := rfl
  have hb : Sem.run Try.prog (binOp .add 3 (.int .i64 k) (.int .i64 1)) w = .ok (.int .i64 (k + 1)) w := by simp [go_sem, hw]
  have hg : Sem.run Try.prog (eqGuard BinOp.add 3 x (.const (.int .i64 1)) (.int .i64 k) (.int .i64 1)) w = .ok () w := by simp [eqGuard]
  unfold Oper.wp execOp
  simp only [ho, hx, hc, Sem.run_bind, hg, hb, Result.andThen_ok, Sem.run_pure]
  exact hK _ _ hk
/-- A list that comes back: the one that was handed in, or one of the call's own. -/
def Outc (w w' : World) (u v' : Value) (l' : List Ru) : Prop := SrcU w' v' l' ∧ (v' = u ∨ ∀ k, v'.ownBlock = some k → w.heap.size ≤ k ∧ k < w'.heap.size)
theorem SrcU.cut0 {w : World} {ad : Option Addr} {n cap : Nat} {l : List Ru} (h : SrcU w (.slice ad n cap) l) (p : Nat) (hp : p ≤ l.length) : SrcU w (.slice ad p cap) (l.take p) := by
  have := h.cut 0 p (Nat.zero_le _) hp
  rw [cutU_zero, List.drop_zero] at this
  exact this
theorem SrcU.cutD {w : World} {ad : Option Addr} {n cap : Nat} {l : List Ru} (h : SrcU w (.slice ad n cap) l) (hn : n = l.length) (p : Nat) (hp : p ≤ n) : SrcU w (cutU ad p n cap) (l.drop p) := by
  have := h.cut p n hp (by omega)
  rw [List.take_of_length_le (by omega)] at this
  exact this
set_option maxRecDepth 20000 in
set_option maxHeartbeats 8000000 in
theorem rinsOk (u : Value) (l : List Ru) (M : Int) (p : Nat) (R : Ru) (w : World) (hs : SrcU w u l) (hl : l.length ≤ 200000) (b : BdR R) (hJ0 : joinE l R = 0) (hp : p ≤ l.length) (hm : (l.length : Int) < M) :
    Calls Try.prog 32 #[u, .int .i64 M, .int .i64 (p : Int), .agg #[.int .i64 R.i, .int .u32 (R.s : Int), .int .i64 R.sl, .int .u32 (R.d : Int), .int .i64 R.dl, .int .u16 (R.p.1 : Int), .int .u16 (R.p.2 : Int), .int .u16 (R.q.1 : Int), .int .u16 (R.q.2 : Int), .int .u8 (R.m.1 : Int), .int .u8 (R.m.2 : Int), .int .i64 R.act]] w fun e w' => ∃ v', e = .returned (.tuple #[v', .int .i64 0]) ∧ RowU w' w.heap.size v' (putL l p R) ∧ Below w.heap.size w w' := by
  have hC := rcheckR R (w.alloc (.cells #[.int .i64 R.i, .int .u32 (R.s : Int), .int .i64 R.sl, .int .u32 (R.d : Int), .int .i64 R.dl, .int .u16 (R.p.1 : Int), .int .u16 (R.p.2 : Int), .int .u16 (R.q.1 : Int), .int .u16 (R.q.2 : Int), .int .u8 (R.m.1 : Int), .int .u8 (R.m.2 : Int), .int .i64 R.act] 43)) b
  obtain ⟨j1, j2⟩ := joinE_ok.1 hJ0
  rw [j1] at hC
  have HF : Hid (∀ W, Below w.heap.size w W → Calls Try.prog 38 #[u, .int .i64 R.i] W fun e w' => e = .returned (.int .i64 (-1)) ∧ Below W.heap.size W w') := fun W hb => by
    have := rfindC u l R.i W (hs.keep hb) hl
    rw [j2] at this
    exact this
  have HL : Hid ((([] ++ l.take p) ++ [R]) ++ l.drop p = putL l p R) := by show _ = _; unfold putL; simp
  have HS : Hid (SrcU w u l) := hs
  generalize (errs R).2 = d at *
  obtain ⟨ad, cap, rfl, hcap, hat⟩ := hs
  obtain ⟨n, hn⟩ : ∃ n, n = l.length := ⟨_, rfl⟩
  have Hn : Hid (n = l.length) := hn
  rw [← hn] at hl hcap HF HS hp hm ⊢
  clear hat hn hJ0 j1 j2 b
  have hn0 : (n : Int) ≤ 200000 := by omega
  have hp1 : ¬ (p : Int) < 0 := by omega
  have hp2 : ¬ (n : Int) < (p : Int) := by omega
  have hm2 : ¬ M ≤ (n : Int) := by omega
  have hpc : p ≤ cap := by omega
  go_enter Try.func32, Try.ntmps32
  go_wp2_with (fail)
  refine hC.mono ?_
  rintro e W1 ⟨rfl, hb1⟩
  have HB1 : Hid (Below w.heap.size w W1) := ((Below.refl _ _).alloc (Nat.le_refl _) _).trans (hb1.mono (by simp))
  have HQ1 : Hid (W1.heap[w.heap.size]? = some (.cells #[.int .i64 R.i, .int .u32 (R.s : Int), .int .i64 R.sl, .int .u32 (R.d : Int), .int .i64 R.dl, .int .u16 (R.p.1 : Int), .int .u16 (R.p.2 : Int), .int .u16 (R.q.1 : Int), .int .u16 (R.q.2 : Int), .int .u8 (R.m.1 : Int), .int .u8 (R.m.2 : Int), .int .i64 R.act] 43)) := blk_on (blk_new w _) hb1
  obtain ⟨d0, d1, d2, d3, d4, d5, d6, d7, d8, d9, d10, d11⟩ := blk12 HQ1.out
  clear hb1 hC
  go_wp2_with (fail)
  refine (HF.out _ HB1.out).mono ?_
  rintro e W2 ⟨rfl, hb2⟩
  have HB2 : Hid (Below w.heap.size w W2) := HB1.out.trans (hb2.mono HB1.out.size)
  have HQ2 : Hid (W2.heap[w.heap.size]? = some (.cells #[.int .i64 R.i, .int .u32 (R.s : Int), .int .i64 R.sl, .int .u32 (R.d : Int), .int .i64 R.dl, .int .u16 (R.p.1 : Int), .int .u16 (R.p.2 : Int), .int .u16 (R.q.1 : Int), .int .u16 (R.q.2 : Int), .int .u8 (R.m.1 : Int), .int .u8 (R.m.2 : Int), .int .i64 R.act] 43)) := blk_on HQ1.out hb2
  clear hb2 d0 d1 d2 d3 d4 d5 d6 d7 d8 d9 d10 d11 HF HQ1 HB1
  clear W1
  have HSrc : Hid (∀ W, Below W2.heap.size W2 W → SrcU W (.slice ad n cap) l) := fun W hb => (HS.out.keep HB2.out).keep hb
  have HZ0 : Hid (Below W2.heap.size W2 W2) := Below.refl _ _
  go_upto_region 11 with (fail)
  refine wp_region_lit ?_
  refine wpList_move rfl (.tmp 12) rfl (.slice none 0 0) rfl ?_
  simp only [List.getElem_toArray, List.getElem_cons_succ, List.getElem_cons_zero, Act.put, List.setIfInBounds_toArray, List.set_cons_zero, List.set_cons_succ]
  refine wpList_move rfl (.tmp 0) rfl (.slice ad n cap) rfl ?_
  simp only [List.getElem_toArray, List.getElem_cons_succ, List.getElem_cons_zero, Act.put, List.setIfInBounds_toArray, List.set_cons_zero, List.set_cons_succ]
  refine wpList_move rfl (.tmp 2) rfl (.int .i64 (p : Int)) rfl ?_
  simp only [List.getElem_toArray, List.getElem_cons_succ, List.getElem_cons_zero, Act.put, List.setIfInBounds_toArray, List.set_cons_zero, List.set_cons_succ]
  refine wpList_cut rfl 33 (.tmp 47) none (some (.tmp 48)) none rfl (.slice ad (p) cap) (cut_h' _ ad (n) cap (p) _ (rfl) (by omega)) ?_
  simp only [List.getElem_toArray, List.getElem_cons_succ, List.getElem_cons_zero, Act.put, List.setIfInBounds_toArray, List.set_cons_zero, List.set_cons_succ]
  refine wpList_appendSU rfl (.tmp 46) (.tmp 49) rfl W2.heap.size (.slice none 0 0) [] rfl (RowU.nil _ _) (.slice ad p cap) (l.take p) rfl ((HSrc.out _ HZ0.out).cut0 p (by rw [← Hn.out]; exact hp)) (by first | exact Nat.le_refl _ | (have := HZ0.out.size; first | omega | (simp; omega))) (by have := Hn.out; first | (simp; omega) | (simp [List.length_append, List.length_take]; omega)) ?_
  intro v1 w1 hr1 hg1 ha1
  simp only [List.getElem_toArray, List.getElem_cons_succ, List.getElem_cons_zero, Act.put, List.setIfInBounds_toArray, List.set_cons_zero, List.set_cons_succ]
  refine wpList_assign rfl (.tmp 50) rfl (v1) rfl ?_
  simp only [List.getElem_toArray, List.getElem_cons_succ, List.getElem_cons_zero, Act.put, List.setIfInBounds_toArray, List.set_cons_zero, List.set_cons_succ]
  refine wpList_nil ?_
  have HR1 : Hid (RowU w1 W2.heap.size v1 ([] ++ l.take p)) := hr1
  have HZ1 : Hid (Below W2.heap.size W2 w1) := bel_grownU HZ0.out (RowU.nil _ _) hg1 (Nat.le_refl _) (Nat.le_refl _)
  clear hr1 hg1 ha1
  have hz1 := HZ1.out.size
  have HRb : Hid (w1.heap[w.heap.size]? = some (.cells #[.int .i64 R.i, .int .u32 (R.s : Int), .int .i64 R.sl, .int .u32 (R.d : Int), .int .i64 R.dl, .int .u16 (R.p.1 : Int), .int .u16 (R.p.2 : Int), .int .u16 (R.q.1 : Int), .int .u16 (R.q.2 : Int), .int .u8 (R.m.1 : Int), .int .u8 (R.m.2 : Int), .int .i64 R.act] 43)) := by show _ = _; rw [HZ1.out.block _ (blk_lt HQ2.out)]; exact HQ2.out
  obtain ⟨d0, d1, d2, d3, d4, d5, d6, d7, d8, d9, d10, d11⟩ := blk12 HRb.out
  go_upto_region 13 with ((at_builtin; refine wpList_appendSU rfl (.tmp 51) (.tmp 53) rfl W2.heap.size v1 ([] ++ l.take p) rfl (HR1.out.alloc _) _ [R] rfl (RowU.one w1 0 R (Nat.zero_le _)).src (by first | exact Nat.le_refl _ | (have := HZ1.out.size; first | omega | (simp; omega))) (by have := Hn.out; first | (simp; omega) | (simp [List.length_append, List.length_take]; omega)) ?_; intro v2 w2 hr2 hg2 ha2))
  have HZa : Hid (Below W2.heap.size W2 (w1.alloc (.cells #[.int .i64 R.i, .int .u32 (R.s : Int), .int .i64 R.sl, .int .u32 (R.d : Int), .int .i64 R.dl, .int .u16 (R.p.1 : Int), .int .u16 (R.p.2 : Int), .int .u16 (R.q.1 : Int), .int .u16 (R.q.2 : Int), .int .u8 (R.m.1 : Int), .int .u8 (R.m.2 : Int), .int .i64 R.act] 43))) := HZ1.out.alloc hz1 _
  have HR2 : Hid (RowU w2 W2.heap.size v2 (([] ++ l.take p) ++ [R])) := hr2
  have HZ2 : Hid (Below W2.heap.size W2 w2) := bel_grownU HZa.out (HR1.out.alloc _) hg2 (by simp; omega) (Nat.le_refl _)
  clear hr2 hg2 ha2
  clear d0 d1 d2 d3 d4 d5 d6 d7 d8 d9 d10 d11
  have hz2 := HZ2.out.size
  go_upto_region 13 with (fail)
  refine wp_region_lit ?_
  refine wpList_move rfl (.tmp 12) rfl (v2) rfl ?_
  simp only [List.getElem_toArray, List.getElem_cons_succ, List.getElem_cons_zero, Act.put, List.setIfInBounds_toArray, List.set_cons_zero, List.set_cons_succ]
  refine wpList_move rfl (.tmp 0) rfl (.slice ad n cap) rfl ?_
  simp only [List.getElem_toArray, List.getElem_cons_succ, List.getElem_cons_zero, Act.put, List.setIfInBounds_toArray, List.set_cons_zero, List.set_cons_succ]
  refine wpList_move rfl (.tmp 2) rfl (.int .i64 (p : Int)) rfl ?_
  simp only [List.getElem_toArray, List.getElem_cons_succ, List.getElem_cons_zero, Act.put, List.setIfInBounds_toArray, List.set_cons_zero, List.set_cons_succ]
  refine wpList_cut rfl 33 (.tmp 56) (some (.tmp 57)) none none rfl (cutU ad (p) (n) cap) (cut_l' _ ad (n) cap (p) _ (rfl) (by omega)) ?_
  simp only [List.getElem_toArray, List.getElem_cons_succ, List.getElem_cons_zero, Act.put, List.setIfInBounds_toArray, List.set_cons_zero, List.set_cons_succ]
  refine wpList_appendSU rfl (.tmp 55) (.tmp 58) rfl W2.heap.size v2 (([] ++ l.take p) ++ [R]) rfl HR2.out (cutU ad p n cap) (l.drop p) rfl ((HSrc.out _ HZ2.out).cutD Hn.out p hp) (by first | exact Nat.le_refl _ | (have := HZ2.out.size; first | omega | (simp; omega))) (by have := Hn.out; first | (simp; omega) | (simp [List.length_append, List.length_take]; omega)) ?_
  intro v3 w3 hr3 hg3 ha3
  simp only [List.getElem_toArray, List.getElem_cons_succ, List.getElem_cons_zero, Act.put, List.setIfInBounds_toArray, List.set_cons_zero, List.set_cons_succ]
  refine wpList_assign rfl (.tmp 59) rfl (v3) rfl ?_
  simp only [List.getElem_toArray, List.getElem_cons_succ, List.getElem_cons_zero, Act.put, List.setIfInBounds_toArray, List.set_cons_zero, List.set_cons_succ]
  refine wpList_assign rfl (.const (.int .i64 0)) rfl (.int .i64 0) rfl ?_
  simp only [List.getElem_toArray, List.getElem_cons_succ, List.getElem_cons_zero, Act.put, List.setIfInBounds_toArray, List.set_cons_zero, List.set_cons_succ]
  refine wpList_nil ?_
  have HR3 : Hid (RowU w3 W2.heap.size v3 ((([] ++ l.take p) ++ [R]) ++ l.drop p)) := hr3
  have HZ3 : Hid (Below W2.heap.size W2 w3) := bel_grownU HZ2.out HR2.out hg3 hz2 (Nat.le_refl _)
  clear hr3 hg3 ha3
  rw [HL.out] at HR3
  go_wp2_with (fail)
  refine bodyPost_ret (v := .tuple #[v3, .int .i64 0]) (by simp [results, Try.results32, go_sem]) rfl ?_
  exact ⟨v3, rfl, HR3.out.base HB2.out.size, HB2.out.trans (HZ3.out.mono HB2.out.size)⟩
set_option maxRecDepth 20000 in
set_option maxHeartbeats 4000000 in
theorem rinsNo (u : Value) (l : List Ru) (M p : Int) (R : Ru) (w : World) (hs : SrcU w u l) (hl : l.length ≤ 200000) (b : BdR R) (E : Int) (hE : insE l M p R = E) (h0 : E ≠ 0) :
    Calls Try.prog 32 #[u, .int .i64 M, .int .i64 p, .agg #[.int .i64 R.i, .int .u32 (R.s : Int), .int .i64 R.sl, .int .u32 (R.d : Int), .int .i64 R.dl, .int .u16 (R.p.1 : Int), .int .u16 (R.p.2 : Int), .int .u16 (R.q.1 : Int), .int .u16 (R.q.2 : Int), .int .u8 (R.m.1 : Int), .int .u8 (R.m.2 : Int), .int .i64 R.act]] w fun e w' => e = .returned (.tuple #[u, .int .i64 E]) ∧ Below w.heap.size w w' := by
  have hC := rcheckR R (w.alloc (.cells #[.int .i64 R.i, .int .u32 (R.s : Int), .int .i64 R.sl, .int .u32 (R.d : Int), .int .i64 R.dl, .int .u16 (R.p.1 : Int), .int .u16 (R.p.2 : Int), .int .u16 (R.q.1 : Int), .int .u16 (R.q.2 : Int), .int .u8 (R.m.1 : Int), .int .u8 (R.m.2 : Int), .int .i64 R.act] 43)) b
  have HF : Hid (∀ W, Below w.heap.size w W → Calls Try.prog 38 #[u, .int .i64 R.i] W fun e w' => e = .returned (.int .i64 (fnd l R.i)) ∧ Below W.heap.size W w') := fun W hb => rfindC u l R.i W (hs.keep hb) hl
  have HE : Hid (E = if (if (errs R).1 = 0 then (if 0 ≤ fnd l R.i then 111 else 0) else (errs R).1) = 0 then (if 0 ≤ p ∧ p ≤ l.length then (if M ≤ l.length then 113 else 0) else 112) else (if (errs R).1 = 0 then (if 0 ≤ fnd l R.i then 111 else 0) else (errs R).1)) := hE.symm
  generalize (errs R).1 = c at *
  generalize (errs R).2 = d at *
  generalize fnd l R.i = f at *
  obtain ⟨ad, cap, rfl, hcap, hat⟩ := hs
  obtain ⟨n, hn⟩ : ∃ n, n = l.length := ⟨_, rfl⟩
  rw [← hn] at hl hcap HF HE ⊢
  clear hat hn b hE
  have hn0 : (n : Int) ≤ 200000 := by omega
  by_cases hc : c = 0
  · subst hc
    go_enter Try.func32, Try.ntmps32
    go_wp2_with (fail)
    refine hC.mono ?_
    rintro e W1 ⟨rfl, hb1⟩
    have HB1 : Hid (Below w.heap.size w W1) := ((Below.refl _ _).alloc (Nat.le_refl _) _).trans (hb1.mono (by simp))
    have HQ1 : Hid (W1.heap[w.heap.size]? = some (.cells #[.int .i64 R.i, .int .u32 (R.s : Int), .int .i64 R.sl, .int .u32 (R.d : Int), .int .i64 R.dl, .int .u16 (R.p.1 : Int), .int .u16 (R.p.2 : Int), .int .u16 (R.q.1 : Int), .int .u16 (R.q.2 : Int), .int .u8 (R.m.1 : Int), .int .u8 (R.m.2 : Int), .int .i64 R.act] 43)) := blk_on (blk_new w _) hb1
    obtain ⟨d0, d1, d2, d3, d4, d5, d6, d7, d8, d9, d10, d11⟩ := blk12 HQ1.out
    clear hb1 hC
    go_wp2_with (fail)
    refine (HF.out _ HB1.out).mono ?_
    rintro e W2 ⟨rfl, hb2⟩
    have HB2 : Hid (Below w.heap.size w W2) := HB1.out.trans (hb2.mono HB1.out.size)
    clear hb2 d0 d1 d2 d3 d4 d5 d6 d7 d8 d9 d10 d11 HF HQ1 HB1
    by_cases hf : 0 ≤ f
    · have HV : Hid (E = 111) := by show _ = _; rw [HE.out]; simp [hf]
      clear HE
      go_wp2_with (fail)
      refine bodyPost_ret (v := .tuple #[.slice ad n cap, .int .i64 111]) (by simp [results, Try.results32, go_sem]) rfl ?_
      exact ⟨by rw [HV.out], HB2.out⟩
    · by_cases hp1 : p < 0
      · have HV : Hid (E = 112) := by show _ = _; rw [HE.out]; simp [hf]; omega
        clear HE
        go_wp2_with (fail)
        refine bodyPost_ret (v := .tuple #[.slice ad n cap, .int .i64 112]) (by simp [results, Try.results32, go_sem]) rfl ?_
        exact ⟨by rw [HV.out], HB2.out⟩
      · by_cases hp2 : (n : Int) < p
        · have HV : Hid (E = 112) := by show _ = _; rw [HE.out]; simp [hf]; omega
          clear HE
          go_wp2_with (fail)
          refine bodyPost_ret (v := .tuple #[.slice ad n cap, .int .i64 112]) (by simp [results, Try.results32, go_sem]) rfl ?_
          exact ⟨by rw [HV.out], HB2.out⟩
        · by_cases hm : M ≤ (n : Int)
          · have HV : Hid (E = 113) := by show _ = _; rw [HE.out]; simp [hf, hm]; omega
            clear HE
            go_wp2_with (fail)
            refine bodyPost_ret (v := .tuple #[.slice ad n cap, .int .i64 113]) (by simp [results, Try.results32, go_sem]) rfl ?_
            exact ⟨by rw [HV.out], HB2.out⟩
          · exfalso
            apply h0
            rw [HE.out]
            simp [hf, hm]
            omega
  · have HV : Hid (E = c) := by show _ = _; rw [HE.out]; simp [hc]
    have hc' : (c != 0) = true := by simpa using hc
    clear HE HF
    go_enter Try.func32, Try.ntmps32
    go_wp2_with (fail)
    refine hC.mono ?_
    rintro e W1 ⟨rfl, hb1⟩
    have HB1 : Hid (Below w.heap.size w W1) := ((Below.refl _ _).alloc (Nat.le_refl _) _).trans (hb1.mono (by simp))
    clear hb1 hC
    go_wp2_with (fail)
    refine bodyPost_ret (v := .tuple #[.slice ad n cap, .int .i64 c]) (by simp [results, Try.results32, go_sem]) rfl ?_
    exact ⟨by rw [HV.out], HB1.out⟩
theorem rinsC (u : Value) (l : List Ru) (M p : Int) (R : Ru) (w : World) (hs : SrcU w u l) (hl : l.length ≤ 200000) (b : BdR R) :
    Calls Try.prog 32 #[u, .int .i64 M, .int .i64 p, .agg #[.int .i64 R.i, .int .u32 (R.s : Int), .int .i64 R.sl, .int .u32 (R.d : Int), .int .i64 R.dl, .int .u16 (R.p.1 : Int), .int .u16 (R.p.2 : Int), .int .u16 (R.q.1 : Int), .int .u16 (R.q.2 : Int), .int .u8 (R.m.1 : Int), .int .u8 (R.m.2 : Int), .int .i64 R.act]] w fun e w' => ∃ v', e = .returned (.tuple #[v', .int .i64 (insE l M p R)]) ∧ Outc w w' u v' (insL l M p R) ∧ Below w.heap.size w w' := by
  by_cases h0 : insE l M p R = 0
  · have e2 : insL l M p R = putL l p.toNat R := if_pos h0
    unfold insE at h0
    split at h0
    · rename_i hJ
      split at h0
      · rename_i hp
        split at h0
        · cases h0
        · rename_i hm
          have := rinsOk u l M p.toNat R w hs hl b hJ (by omega) (by omega)
          rw [Int.toNat_of_nonneg hp.1] at this
          rw [e2, show insE l M p R = 0 by unfold insE; rw [if_pos hJ, if_pos hp, if_neg hm]]
          exact this.mono fun e w' ⟨v', h1, h2, h3⟩ => ⟨v', h1, ⟨h2.src, .inr h2.lt⟩, h3⟩
      · cases h0
    · rename_i hJ; exact absurd h0 hJ
  · have e2 : insL l M p R = l := if_neg h0
    rw [e2]
    exact (rinsNo u l M p R w hs hl b _ rfl h0).mono fun e w' ⟨h1, h2⟩ => ⟨u, h1, ⟨hs.keep h2, .inl rfl⟩, h2⟩
set_option maxRecDepth 20000 in
set_option maxHeartbeats 4000000 in
theorem rdelOk (u : Value) (l : List Ru) (x : Int) (k : Nat) (w : World) (hs : SrcU w u l) (hl : l.length ≤ 200000) (hf : fnd l x = (k : Int)) :
    Calls Try.prog 33 #[u, .int .i64 x] w fun e w' => ∃ v', e = .returned (.tuple #[v', .int .i64 0]) ∧ RowU w' w.heap.size v' (outL l k) ∧ Below w.heap.size w w' := by
  have hk : k < l.length := by rcases fnd_range l x with e | e <;> omega
  have hF := rfindC u l x w hs hl
  rw [hf] at hF
  have HL : Hid (([] ++ l.take k) ++ l.drop (k + 1) = outL l k) := by show _ = _; unfold outL; simp
  have HS : Hid (SrcU w u l) := hs
  obtain ⟨ad, cap, rfl, hcap, hat⟩ := hs
  obtain ⟨n, hn⟩ : ∃ n, n = l.length := ⟨_, rfl⟩
  have Hn : Hid (n = l.length) := hn
  rw [← hn] at hl hcap HS hk hF ⊢
  clear hat hn hf
  have hk0 : ¬ (k : Int) < 0 := by omega
  have hwk : IntKind.i64.wrap ((k : Int) + 1) = (k : Int) + 1 := by rw [IntKind.wrap_i64]; omega
  go_enter Try.func33, Try.ntmps33
  go_wp2_with (fail)
  refine hF.mono ?_
  rintro e W2 ⟨rfl, hb2⟩
  have HB2 : Hid (Below w.heap.size w W2) := hb2
  clear hb2 hF
  have HSrc : Hid (∀ W, Below W2.heap.size W2 W → SrcU W (.slice ad n cap) l) := fun W hb => (HS.out.keep HB2.out).keep hb
  have HZ0 : Hid (Below W2.heap.size W2 W2) := Below.refl _ _
  go_upto_region 5 with (fail)
  refine wp_region_lit ?_
  refine wpList_move rfl (.tmp 7) rfl (.slice none 0 0) rfl ?_
  simp only [List.getElem_toArray, List.getElem_cons_succ, List.getElem_cons_zero, Act.put, List.setIfInBounds_toArray, List.set_cons_zero, List.set_cons_succ]
  refine wpList_move rfl (.tmp 0) rfl (.slice ad n cap) rfl ?_
  simp only [List.getElem_toArray, List.getElem_cons_succ, List.getElem_cons_zero, Act.put, List.setIfInBounds_toArray, List.set_cons_zero, List.set_cons_succ]
  refine wpList_move rfl (.tmp 6) rfl (.int .i64 (k : Int)) rfl ?_
  simp only [List.getElem_toArray, List.getElem_cons_succ, List.getElem_cons_zero, Act.put, List.setIfInBounds_toArray, List.set_cons_zero, List.set_cons_succ]
  refine wpList_cut rfl 33 (.tmp 15) none (some (.tmp 16)) none rfl (.slice ad (k) cap) (cut_h' _ ad (n) cap (k) _ (rfl) (by omega)) ?_
  simp only [List.getElem_toArray, List.getElem_cons_succ, List.getElem_cons_zero, Act.put, List.setIfInBounds_toArray, List.set_cons_zero, List.set_cons_succ]
  refine wpList_appendSU rfl (.tmp 14) (.tmp 17) rfl W2.heap.size (.slice none 0 0) [] rfl (RowU.nil _ _) (.slice ad k cap) (l.take k) rfl ((HSrc.out _ HZ0.out).cut0 k (by rw [← Hn.out]; omega)) (by first | exact Nat.le_refl _ | (have := HZ0.out.size; first | omega | (simp; omega))) (by have := Hn.out; first | (simp; omega) | (simp [List.length_append, List.length_take]; omega)) ?_
  intro v1 w1 hr1 hg1 ha1
  simp only [List.getElem_toArray, List.getElem_cons_succ, List.getElem_cons_zero, Act.put, List.setIfInBounds_toArray, List.set_cons_zero, List.set_cons_succ]
  refine wpList_assign rfl (.tmp 18) rfl (v1) rfl ?_
  simp only [List.getElem_toArray, List.getElem_cons_succ, List.getElem_cons_zero, Act.put, List.setIfInBounds_toArray, List.set_cons_zero, List.set_cons_succ]
  refine wpList_nil ?_
  have HR1 : Hid (RowU w1 W2.heap.size v1 ([] ++ l.take k)) := hr1
  have HZ1 : Hid (Below W2.heap.size W2 w1) := bel_grownU HZ0.out (RowU.nil _ _) hg1 (Nat.le_refl _) (Nat.le_refl _)
  clear hr1 hg1 ha1
  have hz1 := HZ1.out.size
  go_upto_region 6 with (fail)
  refine wp_region_lit ?_
  refine wpList_move rfl (.tmp 7) rfl (v1) rfl ?_
  simp only [List.getElem_toArray, List.getElem_cons_succ, List.getElem_cons_zero, Act.put, List.setIfInBounds_toArray, List.set_cons_zero, List.set_cons_succ]
  refine wpList_move rfl (.tmp 0) rfl (.slice ad n cap) rfl ?_
  simp only [List.getElem_toArray, List.getElem_cons_succ, List.getElem_cons_zero, Act.put, List.setIfInBounds_toArray, List.set_cons_zero, List.set_cons_succ]
  refine wpList_move rfl (.tmp 6) rfl (.int .i64 (k : Int)) rfl ?_
  simp only [List.getElem_toArray, List.getElem_cons_succ, List.getElem_cons_zero, Act.put, List.setIfInBounds_toArray, List.set_cons_zero, List.set_cons_succ]
  refine wpList_add1 rfl (.tmp 21) rfl ((k : Int)) rfl hwk ?_
  simp only [List.getElem_toArray, List.getElem_cons_succ, List.getElem_cons_zero, Act.put, List.setIfInBounds_toArray, List.set_cons_zero, List.set_cons_succ]
  refine wpList_cut rfl 33 (.tmp 20) (some (.tmp 22)) none none rfl (cutU ad (k + 1) (n) cap) (cut_l' _ ad (n) cap (k + 1) _ (by first | rfl | omega) (by omega)) ?_
  simp only [List.getElem_toArray, List.getElem_cons_succ, List.getElem_cons_zero, Act.put, List.setIfInBounds_toArray, List.set_cons_zero, List.set_cons_succ]
  refine wpList_appendSU rfl (.tmp 19) (.tmp 23) rfl W2.heap.size v1 ([] ++ l.take k) rfl HR1.out (cutU ad (k + 1) n cap) (l.drop (k + 1)) rfl ((HSrc.out _ HZ1.out).cutD Hn.out (k + 1) hk) (by first | exact Nat.le_refl _ | (have := HZ1.out.size; first | omega | (simp; omega))) (by have := Hn.out; first | (simp; omega) | (simp [List.length_append, List.length_take]; omega)) ?_
  intro v2 w2 hr2 hg2 ha2
  simp only [List.getElem_toArray, List.getElem_cons_succ, List.getElem_cons_zero, Act.put, List.setIfInBounds_toArray, List.set_cons_zero, List.set_cons_succ]
  refine wpList_assign rfl (.tmp 24) rfl (v2) rfl ?_
  simp only [List.getElem_toArray, List.getElem_cons_succ, List.getElem_cons_zero, Act.put, List.setIfInBounds_toArray, List.set_cons_zero, List.set_cons_succ]
  refine wpList_assign rfl (.const (.int .i64 0)) rfl (.int .i64 0) rfl ?_
  simp only [List.getElem_toArray, List.getElem_cons_succ, List.getElem_cons_zero, Act.put, List.setIfInBounds_toArray, List.set_cons_zero, List.set_cons_succ]
  refine wpList_nil ?_
  have HR2 : Hid (RowU w2 W2.heap.size v2 (([] ++ l.take k) ++ l.drop (k + 1))) := hr2
  have HZ2 : Hid (Below W2.heap.size W2 w2) := bel_grownU HZ1.out HR1.out hg2 hz1 (Nat.le_refl _)
  clear hr2 hg2 ha2
  rw [HL.out] at HR2
  go_wp2_with (fail)
  refine bodyPost_ret (v := .tuple #[v2, .int .i64 0]) (by simp [results, Try.results33, go_sem]) rfl ?_
  exact ⟨v2, rfl, HR2.out.base HB2.out.size, HB2.out.trans (HZ2.out.mono HB2.out.size)⟩
theorem rdelC (u : Value) (l : List Ru) (x : Int) (w : World) (hs : SrcU w u l) (hl : l.length ≤ 200000) :
    Calls Try.prog 33 #[u, .int .i64 x] w fun e w' => ∃ v', e = .returned (.tuple #[v', .int .i64 (delE l x)]) ∧ Outc w w' u v' (delL l x) ∧ Below w.heap.size w w' := by
  rcases fnd_range l x with e | e
  · have e1 : delE l x = 114 := if_neg (by omega)
    have e2 : delL l x = l := if_neg (by omega)
    rw [e1, e2]
    have hF := rfindC u l x w hs hl
    rw [e] at hF
    have HS : Hid (SrcU w u l) := hs
    obtain ⟨ad, cap, rfl, hcap, hat⟩ := hs
    obtain ⟨n, hn⟩ : ∃ n, n = l.length := ⟨_, rfl⟩
    rw [← hn] at hF HS ⊢
    clear hat hn e e1 e2
    go_enter Try.func33, Try.ntmps33
    go_wp2_with (fail)
    refine hF.mono ?_
    rintro e W2 ⟨rfl, hb2⟩
    have HB2 : Hid (Below w.heap.size w W2) := hb2
    clear hb2 hF
    go_wp2_with (fail)
    refine bodyPost_ret (v := .tuple #[.slice ad n cap, .int .i64 114]) (by simp [results, Try.results33, go_sem]) rfl ?_
    exact ⟨_, rfl, ⟨HS.out.keep HB2.out, .inl rfl⟩, HB2.out⟩
  · have e1 : delE l x = 0 := if_pos e.1
    have e2 : delL l x = outL l (fnd l x).toNat := if_pos e.1
    rw [e1, e2]
    exact (rdelOk u l x (fnd l x).toNat w hs hl (by omega)).mono fun e w' ⟨v', h1, h2, h3⟩ => ⟨v', h1, ⟨h2.src, .inr h2.lt⟩, h3⟩
set_option maxHeartbeats 1000000 in
theorem rcopyC (v : Value) (l : List Ru) (w : World) (hs : SrcU w v l) (hl : l.length ≤ 200000) :
    Calls Try.prog 37 #[v] w fun e w' => ∃ v' : Value, e = .returned v' ∧ RowU w' w.heap.size v' l ∧ Below w.heap.size w w' := by
  obtain ⟨i0, hi, hz0, hz1, hz2⟩ := info_parts infoU
  have hmk := fun W => run_make (P := Try.prog) W 33 43 i0 _ Try.underlying33 hi hz0 .i64 .i64 l.length l.length (by omega) (Int.le_refl _) (by rw [hz2]; omega) (by omega)
  simp only [hz1, Int.toNat_natCast] at hmk
  obtain ⟨w1, hr, HR, HB⟩ := run_fillU w 3 v l hs hl #[.int .i64 0, .int .u32 0, .int .i64 0, .int .u32 0, .int .i64 0, .int .u16 0, .int .u16 0, .int .u16 0, .int .u16 0, .int .u8 0, .int .u8 0, .int .i64 0]
  have HR1 : Hid (RowU w1 w.heap.size (.slice (some ⟨w.heap.size, 0, none⟩) l.length l.length) l) := HR
  have HB1 : Hid (Below w.heap.size w w1) := HB
  obtain ⟨ad, cap, rfl, hcap, hat⟩ := hs
  clear hat HR HB hi hz0 hz1 hz2
  go_enter Try.func37, Try.ntmps37
  go_wp2_with (fail)
  go_ret
  exact ⟨_, rfl, HR1.out, HB1.out⟩
set_option maxRecDepth 20000 in
set_option maxHeartbeats 4000000 in
theorem rmovOk (u : Value) (l : List Ru) (x : Int) (k q : Nat) (p : Ru) (w : World) (hs : SrcU w u l) (hl : l.length ≤ 200000) (hf : fnd l x = (k : Int)) (hk : k < l.length) (hp : p = l[k]'hk) (hq : q < l.length) :
    Calls Try.prog 34 #[u, .int .i64 x, .int .i64 (q : Int)] w fun e w' => ∃ v', e = .returned (.tuple #[v', .int .i64 0]) ∧ RowU w' w.heap.size v' (putL (outL l k) q p) ∧ Below w.heap.size w w' := by
  have hF := rfindC u l x w hs hl
  rw [hf] at hF
  have HD : Hid (∀ W, Below w.heap.size w W → Calls Try.prog 33 #[u, .int .i64 x] W fun e w' => ∃ v', e = .returned (.tuple #[v', .int .i64 0]) ∧ RowU w' W.heap.size v' (outL l k) ∧ Below W.heap.size W w') := fun W hb => rdelOk u l x k W (hs.keep hb) hl hf
  obtain ⟨O, hO⟩ : ∃ O, O = outL l k := ⟨_, rfl⟩
  have hOl : O.length = l.length - 1 := by rw [hO]; exact outL_len hk
  rw [← hO] at HD ⊢
  have HL : Hid ((([] ++ O.take q) ++ [p]) ++ O.drop q = putL O q p) := by show _ = _; unfold putL; simp
  obtain ⟨ad, cap, rfl, hcap, hat⟩ := hs
  obtain ⟨g, off, rfl, h3⟩ := hat (by omega)
  have hc := h3 k hk
  rw [← hp] at hc
  obtain ⟨n, hn⟩ : ∃ n, n = l.length := ⟨_, rfl⟩
  have hkn : k < n := by rw [hn]; exact hk
  rw [← hn] at hl hcap hF HD hq hOl ⊢
  have Hn : Hid (n = l.length) := hn
  clear hat h3 hn hf hO hp hk
  have HC : Hid (∀ j, j < 12 → w.cell? ⟨g, off + (k * 12 + j), none⟩ = (encU p)[j]?) := hc
  clear hc
  have hk0 : ¬ (k : Int) < 0 := by omega
  have hk1 : (k : Int) < (n : Int) := by omega
  have hn0 : (n : Int) ≤ 200000 := by omega
  have hq0 : ¬ (q : Int) < 0 := by omega
  have hq1 : ¬ (n : Int) ≤ (q : Int) := by omega
  go_enter Try.func34, Try.ntmps34
  go_wp2_with (fail)
  refine hF.mono ?_
  rintro e W1 ⟨rfl, hb1⟩
  have HB1 : Hid (Below w.heap.size w W1) := hb1
  have x0 : W1.cell? ⟨g, off + k * 12, none⟩ = some (.int .i64 p.i) := cell_on1 hb1 (HC.out 0 (by decide))
  have x1 : W1.cell? ⟨g, off + k * 12 + 1, none⟩ = some (.int .u32 (p.s : Int)) := cell_on1 hb1 (HC.out 1 (by decide))
  have x2 : W1.cell? ⟨g, off + k * 12 + 2, none⟩ = some (.int .i64 p.sl) := cell_on1 hb1 (HC.out 2 (by decide))
  have x3 : W1.cell? ⟨g, off + k * 12 + 3, none⟩ = some (.int .u32 (p.d : Int)) := cell_on1 hb1 (HC.out 3 (by decide))
  have x4 : W1.cell? ⟨g, off + k * 12 + 4, none⟩ = some (.int .i64 p.dl) := cell_on1 hb1 (HC.out 4 (by decide))
  have x5 : W1.cell? ⟨g, off + k * 12 + 5, none⟩ = some (.int .u16 (p.p.1 : Int)) := cell_on1 hb1 (HC.out 5 (by decide))
  have x6 : W1.cell? ⟨g, off + k * 12 + 6, none⟩ = some (.int .u16 (p.p.2 : Int)) := cell_on1 hb1 (HC.out 6 (by decide))
  have x7 : W1.cell? ⟨g, off + k * 12 + 7, none⟩ = some (.int .u16 (p.q.1 : Int)) := cell_on1 hb1 (HC.out 7 (by decide))
  have x8 : W1.cell? ⟨g, off + k * 12 + 8, none⟩ = some (.int .u16 (p.q.2 : Int)) := cell_on1 hb1 (HC.out 8 (by decide))
  have x9 : W1.cell? ⟨g, off + k * 12 + 9, none⟩ = some (.int .u8 (p.m.1 : Int)) := cell_on1 hb1 (HC.out 9 (by decide))
  have x10 : W1.cell? ⟨g, off + k * 12 + 10, none⟩ = some (.int .u8 (p.m.2 : Int)) := cell_on1 hb1 (HC.out 10 (by decide))
  have x11 : W1.cell? ⟨g, off + k * 12 + 11, none⟩ = some (.int .i64 p.act) := cell_on1 hb1 (HC.out 11 (by decide))
  clear hb1 hF HC
  have hne : ¬ g = W1.heap.size := by have := World.block_lt_of_cell? W1 _ x0; simp at this; omega
  go_wp2_with (fail)
  refine (HD.out (W1.alloc (.cells #[.int .i64 p.i, .int .u32 (p.s : Int), .int .i64 p.sl, .int .u32 (p.d : Int), .int .i64 p.dl, .int .u16 (p.p.1 : Int), .int .u16 (p.p.2 : Int), .int .u16 (p.q.1 : Int), .int .u16 (p.q.2 : Int), .int .u8 (p.m.1 : Int), .int .u8 (p.m.2 : Int), .int .i64 p.act] 43)) (HB1.out.alloc HB1.out.size _)).mono ?_
  rintro e W2 ⟨vd, rfl, hrd, hb2⟩
  have HB2 : Hid (Below w.heap.size w W2) := (HB1.out.alloc HB1.out.size _).trans (hb2.mono (by have := HB1.out.size; simp; omega))
  have HQ2 : Hid (W2.heap[W1.heap.size]? = some (.cells #[.int .i64 p.i, .int .u32 (p.s : Int), .int .i64 p.sl, .int .u32 (p.d : Int), .int .i64 p.dl, .int .u16 (p.p.1 : Int), .int .u16 (p.p.2 : Int), .int .u16 (p.q.1 : Int), .int .u16 (p.q.2 : Int), .int .u8 (p.m.1 : Int), .int .u8 (p.m.2 : Int), .int .i64 p.act] 43)) := blk_on (blk_new W1 _) hb2
  have HRd : Hid (RowU W2 0 vd O) := hrd.base (Nat.zero_le _)
  obtain ⟨ad2, cap2, hvd, hcap2, _⟩ := hrd.form
  obtain ⟨m, hm⟩ : ∃ m, m = O.length := ⟨_, rfl⟩
  have Hm : Hid (m = O.length) := hm
  rw [← hm] at hvd hcap2 hOl
  subst hvd
  have hqm : q ≤ m := by omega
  have hml : m ≤ 200000 := by omega
  clear hb2 hrd hm x0 x1 x2 x3 x4 x5 x6 x7 x8 x9 x10 x11 HD hOl
  have HSrc : Hid (∀ W, Below W2.heap.size W2 W → SrcU W (.slice ad2 m cap2) O) := fun W hb => HRd.out.src.keep hb
  have HZ0 : Hid (Below W2.heap.size W2 W2) := Below.refl _ _
  go_upto_region 9 with (fail)
  refine wp_region_lit ?_
  refine wpList_move rfl (.tmp 12) rfl (.slice none 0 0) rfl ?_
  simp only [List.getElem_toArray, List.getElem_cons_succ, List.getElem_cons_zero, Act.put, List.setIfInBounds_toArray, List.set_cons_zero, List.set_cons_succ]
  refine wpList_move rfl (.tmp 10) rfl (.slice ad2 m cap2) rfl ?_
  simp only [List.getElem_toArray, List.getElem_cons_succ, List.getElem_cons_zero, Act.put, List.setIfInBounds_toArray, List.set_cons_zero, List.set_cons_succ]
  refine wpList_move rfl (.tmp 2) rfl (.int .i64 (q : Int)) rfl ?_
  simp only [List.getElem_toArray, List.getElem_cons_succ, List.getElem_cons_zero, Act.put, List.setIfInBounds_toArray, List.set_cons_zero, List.set_cons_succ]
  refine wpList_cut rfl 33 (.tmp 39) none (some (.tmp 40)) none rfl (.slice ad2 (q) cap2) (cut_h' _ ad2 (m) cap2 (q) _ (rfl) (by omega)) ?_
  simp only [List.getElem_toArray, List.getElem_cons_succ, List.getElem_cons_zero, Act.put, List.setIfInBounds_toArray, List.set_cons_zero, List.set_cons_succ]
  refine wpList_appendSU rfl (.tmp 38) (.tmp 41) rfl W2.heap.size (.slice none 0 0) [] rfl (RowU.nil _ _) (.slice ad2 q cap2) (O.take q) rfl ((HSrc.out _ HZ0.out).cut0 q (by rw [← Hm.out]; omega)) (by first | exact Nat.le_refl _ | (have := HZ0.out.size; first | omega | (simp; omega))) (by have := Hm.out; first | (simp; omega) | (simp [List.length_append, List.length_take]; omega)) ?_
  intro v1 w1 hr1 hg1 ha1
  simp only [List.getElem_toArray, List.getElem_cons_succ, List.getElem_cons_zero, Act.put, List.setIfInBounds_toArray, List.set_cons_zero, List.set_cons_succ]
  refine wpList_assign rfl (.tmp 42) rfl (v1) rfl ?_
  simp only [List.getElem_toArray, List.getElem_cons_succ, List.getElem_cons_zero, Act.put, List.setIfInBounds_toArray, List.set_cons_zero, List.set_cons_succ]
  refine wpList_nil ?_
  have HR1 : Hid (RowU w1 W2.heap.size v1 ([] ++ O.take q)) := hr1
  have HZ1 : Hid (Below W2.heap.size W2 w1) := bel_grownU HZ0.out (RowU.nil _ _) hg1 (Nat.le_refl _) (Nat.le_refl _)
  clear hr1 hg1 ha1
  have hz1 := HZ1.out.size
  have HRb : Hid (w1.heap[W1.heap.size]? = some (.cells #[.int .i64 p.i, .int .u32 (p.s : Int), .int .i64 p.sl, .int .u32 (p.d : Int), .int .i64 p.dl, .int .u16 (p.p.1 : Int), .int .u16 (p.p.2 : Int), .int .u16 (p.q.1 : Int), .int .u16 (p.q.2 : Int), .int .u8 (p.m.1 : Int), .int .u8 (p.m.2 : Int), .int .i64 p.act] 43)) := by show _ = _; rw [HZ1.out.block _ (blk_lt HQ2.out)]; exact HQ2.out
  obtain ⟨d0, d1, d2, d3, d4, d5, d6, d7, d8, d9, d10, d11⟩ := blk12 HRb.out
  go_upto_region 11 with ((at_builtin; refine wpList_appendSU rfl (.tmp 43) (.tmp 45) rfl W2.heap.size v1 ([] ++ O.take q) rfl (HR1.out.alloc _) _ [p] rfl (RowU.one w1 0 p (Nat.zero_le _)).src (by first | exact Nat.le_refl _ | (have := HZ1.out.size; first | omega | (simp; omega))) (by have := Hm.out; first | (simp; omega) | (simp [List.length_append, List.length_take]; omega)) ?_; intro v2 w2 hr2 hg2 ha2))
  have HZa : Hid (Below W2.heap.size W2 (w1.alloc (.cells #[.int .i64 p.i, .int .u32 (p.s : Int), .int .i64 p.sl, .int .u32 (p.d : Int), .int .i64 p.dl, .int .u16 (p.p.1 : Int), .int .u16 (p.p.2 : Int), .int .u16 (p.q.1 : Int), .int .u16 (p.q.2 : Int), .int .u8 (p.m.1 : Int), .int .u8 (p.m.2 : Int), .int .i64 p.act] 43))) := HZ1.out.alloc hz1 _
  have HR2 : Hid (RowU w2 W2.heap.size v2 (([] ++ O.take q) ++ [p])) := hr2
  have HZ2 : Hid (Below W2.heap.size W2 w2) := bel_grownU HZa.out (HR1.out.alloc _) hg2 (by simp; omega) (Nat.le_refl _)
  clear hr2 hg2 ha2
  clear d0 d1 d2 d3 d4 d5 d6 d7 d8 d9 d10 d11
  have hz2 := HZ2.out.size
  refine wp_region_lit ?_
  refine wpList_move rfl (.tmp 12) rfl (v2) rfl ?_
  simp only [List.getElem_toArray, List.getElem_cons_succ, List.getElem_cons_zero, Act.put, List.setIfInBounds_toArray, List.set_cons_zero, List.set_cons_succ]
  refine wpList_move rfl (.tmp 10) rfl (.slice ad2 m cap2) rfl ?_
  simp only [List.getElem_toArray, List.getElem_cons_succ, List.getElem_cons_zero, Act.put, List.setIfInBounds_toArray, List.set_cons_zero, List.set_cons_succ]
  refine wpList_move rfl (.tmp 2) rfl (.int .i64 (q : Int)) rfl ?_
  simp only [List.getElem_toArray, List.getElem_cons_succ, List.getElem_cons_zero, Act.put, List.setIfInBounds_toArray, List.set_cons_zero, List.set_cons_succ]
  refine wpList_cut rfl 33 (.tmp 48) (some (.tmp 49)) none none rfl (cutU ad2 (q) (m) cap2) (cut_l' _ ad2 (m) cap2 (q) _ (rfl) (by omega)) ?_
  simp only [List.getElem_toArray, List.getElem_cons_succ, List.getElem_cons_zero, Act.put, List.setIfInBounds_toArray, List.set_cons_zero, List.set_cons_succ]
  refine wpList_appendSU rfl (.tmp 47) (.tmp 50) rfl W2.heap.size v2 (([] ++ O.take q) ++ [p]) rfl HR2.out (cutU ad2 q m cap2) (O.drop q) rfl ((HSrc.out _ HZ2.out).cutD Hm.out q hqm) (by first | exact Nat.le_refl _ | (have := HZ2.out.size; first | omega | (simp; omega))) (by have := Hm.out; first | (simp; omega) | (simp [List.length_append, List.length_take]; omega)) ?_
  intro v3 w3 hr3 hg3 ha3
  simp only [List.getElem_toArray, List.getElem_cons_succ, List.getElem_cons_zero, Act.put, List.setIfInBounds_toArray, List.set_cons_zero, List.set_cons_succ]
  refine wpList_assign rfl (.tmp 51) rfl (v3) rfl ?_
  simp only [List.getElem_toArray, List.getElem_cons_succ, List.getElem_cons_zero, Act.put, List.setIfInBounds_toArray, List.set_cons_zero, List.set_cons_succ]
  refine wpList_assign rfl (.const (.int .i64 0)) rfl (.int .i64 0) rfl ?_
  simp only [List.getElem_toArray, List.getElem_cons_succ, List.getElem_cons_zero, Act.put, List.setIfInBounds_toArray, List.set_cons_zero, List.set_cons_succ]
  refine wpList_nil ?_
  have HR3 : Hid (RowU w3 W2.heap.size v3 ((([] ++ O.take q) ++ [p]) ++ O.drop q)) := hr3
  have HZ3 : Hid (Below W2.heap.size W2 w3) := bel_grownU HZ2.out HR2.out hg3 hz2 (Nat.le_refl _)
  clear hr3 hg3 ha3
  rw [HL.out] at HR3
  go_wp2_with (fail)
  refine bodyPost_ret (v := .tuple #[v3, .int .i64 0]) (by simp [results, Try.results34, go_sem]) rfl ?_
  exact ⟨v3, rfl, HR3.out.base HB2.out.size, HB2.out.trans (HZ3.out.mono HB2.out.size)⟩
theorem rmovC (u : Value) (l : List Ru) (x q : Int) (w : World) (hs : SrcU w u l) (hl : l.length ≤ 200000) :
    Calls Try.prog 34 #[u, .int .i64 x, .int .i64 q] w fun e w' => ∃ v', e = .returned (.tuple #[v', .int .i64 (movE l x q)]) ∧ Outc w w' u v' (movL l x q) ∧ Below w.heap.size w w' := by
  have hF := rfindC u l x w hs hl
  have HS : Hid (SrcU w u l) := hs
  rcases fnd_range l x with e | e
  · have e1 : movE l x q = 114 := if_neg (by omega)
    have e2 : movL l x q = l := if_neg (by rw [e1]; decide)
    rw [e1, e2]
    rw [e] at hF
    obtain ⟨ad, cap, rfl, hcap, hat⟩ := hs
    obtain ⟨n, hn⟩ : ∃ n, n = l.length := ⟨_, rfl⟩
    rw [← hn] at hF HS ⊢
    clear hat hn e e1 e2
    go_enter Try.func34, Try.ntmps34
    go_wp2_with (fail)
    refine hF.mono ?_
    rintro e W2 ⟨rfl, hb2⟩
    have HB2 : Hid (Below w.heap.size w W2) := hb2
    clear hb2 hF
    go_wp2_with (fail)
    refine bodyPost_ret (v := .tuple #[.slice ad n cap, .int .i64 114]) (by simp [results, Try.results34, go_sem]) rfl ?_
    exact ⟨_, rfl, ⟨HS.out.keep HB2.out, .inl rfl⟩, HB2.out⟩
  · obtain ⟨k, hk⟩ : ∃ k : Nat, fnd l x = (k : Int) := ⟨(fnd l x).toNat, by omega⟩
    by_cases hq : 0 ≤ q ∧ q ≤ (l.length : Int) - 1
    · have e1 : movE l x q = 0 := by unfold movE; rw [if_pos e.1, if_pos hq]
      have e2 : movL l x q = putL (outL l (fnd l x).toNat) q.toNat (l.getD (fnd l x).toNat ⟨0, 0, 0, 0, 0, (0, 0), (0, 0), (0, 0), 0⟩) := if_pos e1
      have hkl : k < l.length := by omega
      rw [e1, e2, hk, Int.toNat_natCast, getD_at hkl]
      obtain ⟨m, rfl⟩ : ∃ m : Nat, q = (m : Int) := ⟨q.toNat, by omega⟩
      rw [Int.toNat_natCast]
      exact (rmovOk u l x k m _ w hs hl hk hkl rfl (by omega)).mono fun e w' ⟨v', h1, h2, h3⟩ => ⟨v', h1, ⟨h2.src, .inr h2.lt⟩, h3⟩
    · have e1 : movE l x q = 112 := by unfold movE; rw [if_pos e.1, if_neg hq]
      have e2 : movL l x q = l := if_neg (by rw [e1]; decide)
      rw [e1, e2]
      rw [hk] at hF
      obtain ⟨ad, cap, rfl, hcap, hat⟩ := hs
      obtain ⟨n, hn⟩ : ∃ n, n = l.length := ⟨_, rfl⟩
      rw [← hn] at hF HS hq hl ⊢
      clear hat hn e e1 e2 hk
      have hk0 : ¬ (k : Int) < 0 := by omega
      have hn0 : (n : Int) ≤ 200000 := by omega
      go_enter Try.func34, Try.ntmps34
      go_wp2_with (fail)
      refine hF.mono ?_
      rintro e W2 ⟨rfl, hb2⟩
      have HB2 : Hid (Below w.heap.size w W2) := hb2
      clear hb2 hF
      by_cases hq0 : q < 0
      · go_wp2_with (fail)
        refine bodyPost_ret (v := .tuple #[.slice ad n cap, .int .i64 112]) (by simp [results, Try.results34, go_sem]) rfl ?_
        exact ⟨_, rfl, ⟨HS.out.keep HB2.out, .inl rfl⟩, HB2.out⟩
      · have hq1 : (n : Int) ≤ q := by omega
        go_wp2_with (fail)
        refine bodyPost_ret (v := .tuple #[.slice ad n cap, .int .i64 112]) (by simp [results, Try.results34, go_sem]) rfl ?_
        exact ⟨_, rfl, ⟨HS.out.keep HB2.out, .inl rfl⟩, HB2.out⟩
end Go.Proofs.Ytlghbcdahnjcpaa
