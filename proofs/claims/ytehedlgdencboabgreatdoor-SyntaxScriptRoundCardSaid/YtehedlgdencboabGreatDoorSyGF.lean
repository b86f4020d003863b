/-
  SyGF: SyM SyPlM SyN, one behind the other (tools/merge.py).
-/
import Derived.Test.YtehedlgdencboabGreatDoorSyGB
import Derived.Test.YtehedlgdencboabGreatDoorLxCu
import Derived.Test.YtehedlgdencboabGreatDoorSyPlK
import Derived.Defers
import Derived.Recover
import Derived.Tactics2
/-
  A text's tokens, or the giving up; a line's rule or command put behind the list (the functions that readLines is handed). Written by tools/mkSyM.py.
-/
namespace Go.Proofs.YtehedlgdencboabGreatDoor
open Go.RowKit
set_option linter.unusedVariables false
set_option linter.unusedSimpArgs false
variable {zA zC : TypeId × (Nat × Nat)}

theorem asNilV (t : Value) (w : World) : Calls Tryz.prog 27 #[.nilIface, t] w fun e w' => e = .returned (.bool false) ∧ w' = w := by
  go_enter Tryz.func27, Tryz.ntmps27
  go_wp2
  go_ret
  exact ⟨rfl, rfl⟩
set_option maxRecDepth 20000 in
set_option maxHeartbeats 4000000 in
theorem tokOk (s : ByteArray) (w : World) (hs : s.size ≤ 16777216) (hg : Hnd w) (he : (lexT s).2.e = 0) :
    Calls Tryz.prog 31 #[.string s] w fun e w' => ∃ v', e = .returned v' ∧ RowT w' w.heap.size v' (lexT s).1 ∧ Below w.heap.size w w' := by
  have hO := allOk s w hs hg he
  have hN := asNilV
  generalize lexT s = L at *
  clear hs hg he
  go_enter Tryz.func31, Tryz.ntmps31
  go_wp2_with (fail)
  refine hO.mono ?_
  rintro e w1 ⟨v1, rfl, hrow1, hb1⟩
  have HR1 : Hid (RowT w1 w.heap.size v1 L.1) := hrow1
  have HB1 : Hid (Below w.heap.size w w1) := hb1
  clear hrow1 hb1
  go_wp2_with (fail)
  refine (hN _ _).mono ?_
  rintro e w2 ⟨rfl, hw⟩
  obtain rfl := hw.symm
  clear hw
  go_wp2_with (fail)
  go_ret
  exact ⟨v1, rfl, HR1.out.alloc _, HB1.out.alloc HB1.out.size _⟩
set_option maxRecDepth 20000 in
set_option maxHeartbeats 4000000 in
theorem tokBad (s : ByteArray) (w : World) (hs : s.size ≤ 16777216) (hg : Hnd w) (he : (lexT s).2.e ≠ 0) :
    Calls Tryz.prog 31 #[.string s] w fun e w' => Bad w.heap.size (lexT s).2 e w' ∧ Below w.heap.size w w' := by
  have hO := allBad s w hs hg he
  have HG : Hid (Hnd w) := hg
  generalize lexT s = L at *
  clear hs hg he
  go_enter Tryz.func31, Tryz.ntmps31
  go_wp2_with (fail)
  refine hO.mono ?_
  rintro e w1 ⟨v1, F, rfl, hrow1, hF, hFl, _, hb1⟩
  have HG1 : Hid (Hnd w1) := HG.out.on hb1
  have hA := asHit ⟨F, 0, none⟩ ⟨w1.heap.size, 0, none⟩ (.pointer none) (w1.alloc (.cells #[.pointer none] 72)) (HG1.out.alloc _) (by simp) (by simp)
  have hlt := blk_lt hF
  have HF1 : Hid ((asW (w1.alloc (.cells #[.pointer none] 72)) ⟨F, 0, none⟩ ⟨w1.heap.size, 0, none⟩).heap[F]? = some (.cells #[.int .i64 (L.2.e : Int), .int .i64 (L.2.l : Int), .int .i64 (L.2.c : Int)] 76)) := asW_blk (blk_alloc hF _) (by omega)
  have hp := asW_cell (w := w1.alloc (.cells #[.pointer none] 72)) (e := ⟨F, 0, none⟩) (B := w1.heap.size) (v := .pointer none) (by simp)
  have HB : Hid (Below w.heap.size w (asW (w1.alloc (.cells #[.pointer none] 72)) ⟨F, 0, none⟩ ⟨w1.heap.size, 0, none⟩)) := (hb1.alloc hb1.size _).trans (asW_below hb1.size (by simp))
  generalize hW : asW (w1.alloc (.cells #[.pointer none] 72)) ⟨F, 0, none⟩ ⟨w1.heap.size, 0, none⟩ = W at *
  clear hrow1 hF hb1
  go_wp2_with (fail)
  refine hA.mono ?_
  rintro e w2 ⟨rfl, hw⟩
  obtain rfl := hw.symm
  clear hw hW
  go_wp2_with (fail)
  exact ⟨rfl, ⟨F, rfl, HF1.out, hFl⟩, HB.out⟩
theorem wp_store_val {P : Program} {op : Oper} {a : Act} {w : World} {K : Act → World → Prop} {Q : Exit → Act → World → Prop} (ty : TypeId) (x y : Operand) (ho : op.op = .store ty x y)
    (B o : Nat) (val : Value) (cs new : Array Value) (hx : a.eval x = .pointer (some ⟨B, o, none⟩)) (hy : a.eval y = val) (hc : val.cells = cs) (t : TypeId) (old : Array Value)
    (h : w.heap[B]? = some (.cells old t (0, 0))) (hl : o + cs.size ≤ old.size) (hn : old.toList.take o ++ cs.toList ++ old.toList.drop (o + cs.size) = new.toList)
    (hi : (P.info? ty).map (·.size) = some cs.size) (h1 : cs.toList.all (·.oneCell') = true)
    (hk : ∀ w', w'.heap[B]? = some (.cells new t (0, 0)) → Only B w w' → K (a.put op.dst undef) w') : op.wp P a w K Q := by
  have hr := run_store_val (P := P) w B o ty t val cs new old hc h hl hn hi h1
  unfold Oper.wp execOp
  simp only [ho, hx, hy, Sem.run_bind, hr, Result.andThen_ok]
  exact hk _ (setRow_heap w B old new t _ h) (only_setRow w B new)
/-- What lies ahead of the reader's block is as it was, but for the list's variable. -/
structure Kp (P R : Nat) (w w' : World) : Prop where
  os : w'.os = w.os
  tape : w'.tape = w.tape
  output : w'.output = w.output
  size : w.heap.size ≤ w'.heap.size
  block : ∀ k, k < R → k ≠ P → w'.heap[k]? = w.heap[k]?
theorem Kp.refl (P R : Nat) (w : World) : Kp P R w w := ⟨rfl, rfl, rfl, Nat.le_refl _, fun _ _ _ => rfl⟩
theorem Kp.tr {P R : Nat} {w w1 w2 : World} (h : Kp P R w w1) (g : Kp P R w1 w2) : Kp P R w w2 := ⟨g.os.trans h.os, g.tape.trans h.tape, g.output.trans h.output, Nat.le_trans h.size g.size, fun k h1 h2 => (g.block k h1 h2).trans (h.block k h1 h2)⟩
theorem Kp.but {P R : Nat} {w w1 : World} (h : But R w w1) (hR : R < w.heap.size) : Kp P R w w1 := ⟨h.os, h.tape, h.output, h.size, fun k h1 _ => h.block k (by omega) (by omega)⟩
theorem Kp.below {P R n : Nat} {w w1 : World} (h : Below n w w1) (hR : R ≤ n) : Kp P R w w1 := ⟨h.os, h.tape, h.output, h.size, fun k h1 _ => h.block k (by omega)⟩
theorem Kp.onlyP {P R : Nat} {w w1 : World} (h : Only P w w1) : Kp P R w w1 := ⟨h.os, h.tape, h.output, Nat.le_of_eq h.size.symm, fun k _ h2 => h.block k h2⟩
theorem Kp.blk {P R k : Nat} {w w1 : World} {o : Obj} (h : Kp P R w w1) (hb : w.heap[k]? = some o) (h1 : k < R) (h2 : k ≠ P) : w1.heap[k]? = some o := by rw [h.block k h1 h2]; exact hb
theorem Kp.row {P R b : Nat} {w w1 : World} {v : Value} {L : List Tk} (h : Kp P R w w1) (hr : RowT w b v L) (ho : Old R v) (hP : some P ≠ v.ownBlock) : RowT w1 b v L := by
  refine ⟨hr.1, ?_⟩
  rcases hr.2 with h2 | ⟨g, cap, cur, hv, hg, hh, r⟩
  · exact .inl h2
  · have hgR : g < R := ho g (by rw [hv]; rfl)
    exact .inr ⟨g, cap, cur, hv, hg, by rw [h.block g hgR (fun e => hP (by rw [hv, ← e]; rfl))]; exact hh, r⟩
theorem grown_below {n : Nat} {w w1 : World} {row : Option Nat} (h : w.grownBy w1 row) (hn : n ≤ w.heap.size) (hr : ∀ k, row = some k → n ≤ k) : Below n w w1 :=
  ⟨h.os, h.tape, h.output, h.size, fun k hk => h.block k (by omega) (fun e => by have := hr k e.symm; omega)⟩

/-- The list's variable P: the list so far, in blocks behind the reader's. -/
def LU (w : World) (P R : Nat) (out : List Rp) : Prop := ∃ u : Value, w.heap[P]? = some (.cells #[u] 33) ∧ RowU w (R + 1) u (out.map ruOf)
theorem RowU.but {R b : Nat} {w w1 : World} {u : Value} {l : List Ru} (h : RowU w b u l) (hb : But R w w1) (hR : R < b) : RowU w1 b u l := by
  refine ⟨h.1, ?_⟩
  rcases h.2 with h2 | ⟨g, cap, cur, hv, hg, hh, r⟩
  · exact .inl h2
  · exact .inr ⟨g, cap, cur, hv, hg, by rw [hb.block g (blk_lt hh) (by omega)]; exact hh, r⟩
theorem RowU.onlyP {P b : Nat} {w w1 : World} {u : Value} {l : List Ru} (h : RowU w b u l) (ho : Only P w w1) (hP : P < b) : RowU w1 b u l := by
  refine ⟨h.1, ?_⟩
  rcases h.2 with h2 | ⟨g, cap, cur, hv, hg, hh, r⟩
  · exact .inl h2
  · exact .inr ⟨g, cap, cur, hv, hg, by rw [ho.block g (by omega)]; exact hh, r⟩
set_option maxRecDepth 20000 in
set_option maxHeartbeats 16000000 in
theorem rulesStep (w : World) (P R b a : Nat) (v : Value) (L : List Tk) (h : RAt w R b v L a) (hA : ActAt zA w) (hC : CmdAt zC w) (hgP : 8 < P) (hPR : P < R) (hOv : Old R v) (out : List Rp) (hL : LU w P R out) (hmx : out.length ≤ 64) :
    Calls Tryz.prog 23 #[.pointer (some ⟨R, 0, none⟩), .pointer (some ⟨P, 0, none⟩)] w fun e w' => Kp P R w w' ∧ (((oneS chkN L out a).2.w.e ≠ 0 ∧ Bad w.heap.size (oneS chkN L out a).2.w e w') ∨ ((oneS chkN L out a).2.w = ⟨0, 0, 0⟩ ∧ e = .returned (.tuple #[]) ∧ Rdr w' R v ((oneS chkN L out a).2.a + 1) ∧ LU w' P R (out ++ [(oneS chkN L out a).1]))) := by
  have hRL : ∀ W : World, RAt W R b v L a → ActAt zA W → ∀ u : Value, SrcU W u (out.map ruOf) ∧ Off R u → Calls Tryz.prog 24 #[.pointer (some ⟨R, 0, none⟩), u] W _ := fun W h1 h2 u h3 => ruleLineC W R b a v L h1 h2 (by omega) u out h3.1 h3.2 hmx
  have hRd0 := h
  have hlR : R < w.heap.size := blk_lt h.r
  generalize oneS chkN L out a = O at *
  obtain ⟨u, hP, hrow⟩ := hL
  obtain ⟨ad, cap, rfl, hcap, _⟩ := hrow.form
  have hlen : (out.map ruOf).length = out.length := List.length_map ..
  rw [hlen] at hP hrow
  obtain ⟨n, hn⟩ : ∃ n, n = out.length := ⟨_, rfl⟩
  rw [← hn] at hP hrow
  have HN : Hid (n = out.length) := hn
  have HOf : Off R (.slice ad n cap) := fun k hk e => by have := (hrow.lt k hk).1; omega
  have HRow : Hid (RowU w (R + 1) (.slice ad n cap) (out.map ruOf)) := hrow
  have HAt : Hid (RAt w R b v L a) := h
  have HA : Hid (ActAt zA w) := hA
  have HC : Hid (CmdAt zC w) := hC
  have HP : Hid (w.heap[P]? = some (.cells #[.slice ad n cap] 33)) := hP
  have hn0 : (n : Int) ≤ 64 := by omega
  clear hn hlen hrow hP h hA hC hRd0
  go_enter Tryz.func23, Tryz.ntmps23
  go_upto_region 0 with (fail)
  refine wp_region_held_drew (S := fun _ => True) (by kernel_rfl) trivial (fun hS0 => ?_)
  show wpAnyH _ _ _ _ _ 7 _ _ _
  refine wpAnyH_take (i := 1) (v := .pointer (some ⟨R, 0, none⟩)) rfl (by kernel_rfl) (by kernel_rfl) (by kernel_rfl) (fun _ _ _ h => h) (.inl ⟨rfl, fun w' hw' => by simp [execOp, go_sem]⟩) hS0 ?_
  simp only [List.getElem_toArray, List.getElem_cons_succ, List.getElem_cons_zero, Act.put, List.setIfInBounds_toArray, List.set_cons_zero, List.set_cons_succ]
  have hbd : Below w.heap.size w w.drew := (Below.refl _ _).drew
  have hRd : RAt w.drew R b v L a := HAt.out.on hbd
  have hAc : ActAt zA w.drew := HA.out
  have hCc : CmdAt zC w.drew := HC.out
  have hS : w.drew.heap[P]? = some (.cells #[.slice ad n cap] 33) := HP.out
  have hSr : SrcU w.drew (.slice ad n cap) (out.map ruOf) ∧ Off R (.slice ad n cap) := ⟨HRow.out.src.keep hbd, HOf⟩
  refine wpAnyH_all (rs := [0, 2]) (by kernel_rfl) (by simp) ?_
  intro i hi
  simp only [List.mem_cons, List.not_mem_nil, or_false] at hi
  rcases hi with rfl | rfl
  · refine wpOp_of_wp rfl rfl (fun K' hK' => ?_)
    have c0 := blk_cell (j := 0) hS rfl
    go_wp2_with (fail)
    refine ⟨trivial, ?_⟩
    clear c0
    refine wpAnyH_all (rs := [2]) (by kernel_rfl) (by simp) ?_
    intro i hi
    simp only [List.mem_cons, List.not_mem_nil, or_false] at hi
    subst hi
    refine wpOp_of_wp rfl rfl (fun K' hK' => ?_)
    have c0 := blk_cell (j := 0) hS rfl
    go_wp2_with (fail)
    refine ⟨trivial, ?_⟩
    clear c0
    refine wpAnyH_all (rs := [3]) (by kernel_rfl) (by simp) ?_
    intro i hi
    simp only [List.mem_cons, List.not_mem_nil, or_false] at hi
    subst hi
    refine wpOp_of_wp rfl rfl (fun K' hK' => ?_)
    go_wp2_with (fail)
    refine (hRL _ hRd hAc _ hSr).mono ?_
    rintro e w1 ⟨hB, ⟨hne, F, rfl, hF, hl⟩ | ⟨h0, rfl, hR⟩⟩
    · exact ⟨rfl, (Kp.below hbd (Nat.le_of_lt hlR)).tr (Kp.but hB hlR), .inl ⟨hne, F, rfl, hF, hl⟩⟩
    have hS1 : w1.heap[P]? = some (.cells #[.slice ad n cap] 33) := hB.blk hS (by omega)
    have HRow1 : Hid (RowU w1 (R + 1) (.slice ad n cap) (out.map ruOf)) := (HRow.out.on hbd).but hB (Nat.lt_succ_self _)
    have HR1 : Hid (Rdr w1 R v (O.2.a + 1)) := hR
    have HK1 : Hid (Kp P R w w1) := (Kp.below hbd (Nat.le_of_lt hlR)).tr (Kp.but hB hlR)
    have hz1 : R < w1.heap.size := by have := hB.size; exact Nat.lt_of_lt_of_le hlR this
    have HO : Hid (O.2.w = ⟨0, 0, 0⟩) := h0
    clear hB hR h0 hRd hAc hCc hbd hRL hSr hS
    have hS := hS1
    clear hS1
    refine hK' _ _ ⟨trivial, ?_⟩
    generalize hQ : ruOf O.1 = Q at *
    have HQ : Hid (ruOf O.1 = Q) := hQ
    clear hQ
    refine wpAnyH_all (rs := [4]) (by kernel_rfl) (by simp) ?_
    intro i hi
    simp only [List.mem_cons, List.not_mem_nil, or_false] at hi
    subst hi
    refine wpOp_of_wp rfl rfl (fun K' hK' => ?_)
    go_wp2_with (fail)
    have hS2 : (w1.alloc (.cells #[.int .i64 Q.i, .int .u32 (Q.s : Int), .int .i64 Q.sl, .int .u32 (Q.d : Int), .int .i64 Q.dl, .int .u16 (Q.p.1 : Int), .int .u16 (Q.p.2 : Int), .int .u16 (Q.q.1 : Int), .int .u16 (Q.q.2 : Int), .int .u8 (Q.m.1 : Int), .int .u8 (Q.m.2 : Int), .int .i64 Q.act] 52)).heap[P]? = some (.cells #[.slice ad n cap] 33) := blk_alloc hS _
    have hx2 : RowU (w1.alloc (.cells #[.int .i64 Q.i, .int .u32 (Q.s : Int), .int .i64 Q.sl, .int .u32 (Q.d : Int), .int .i64 Q.dl, .int .u16 (Q.p.1 : Int), .int .u16 (Q.p.2 : Int), .int .u16 (Q.q.1 : Int), .int .u16 (Q.q.2 : Int), .int .u8 (Q.m.1 : Int), .int .u8 (Q.m.2 : Int), .int .i64 Q.act] 52)) (R + 1) (.slice (some ⟨w1.heap.size, 0, none⟩) 1 1) [Q] := RowU.one w1 (R + 1) Q hz1
    have hr2 : RowU (w1.alloc (.cells #[.int .i64 Q.i, .int .u32 (Q.s : Int), .int .i64 Q.sl, .int .u32 (Q.d : Int), .int .i64 Q.dl, .int .u16 (Q.p.1 : Int), .int .u16 (Q.p.2 : Int), .int .u16 (Q.q.1 : Int), .int .u16 (Q.q.2 : Int), .int .u8 (Q.m.1 : Int), .int .u8 (Q.m.2 : Int), .int .i64 Q.act] 52)) (R + 1) (.slice ad n cap) (out.map ruOf) := HRow1.out.alloc _
    have hR2 : Rdr (w1.alloc (.cells #[.int .i64 Q.i, .int .u32 (Q.s : Int), .int .i64 Q.sl, .int .u32 (Q.d : Int), .int .i64 Q.dl, .int .u16 (Q.p.1 : Int), .int .u16 (Q.p.2 : Int), .int .u16 (Q.q.1 : Int), .int .u16 (Q.q.2 : Int), .int .u8 (Q.m.1 : Int), .int .u8 (Q.m.2 : Int), .int .i64 Q.act] 52)) R v (O.2.a + 1) := blk_alloc HR1.out _
    have HK2 : Hid (Kp P R w (w1.alloc (.cells #[.int .i64 Q.i, .int .u32 (Q.s : Int), .int .i64 Q.sl, .int .u32 (Q.d : Int), .int .i64 Q.dl, .int .u16 (Q.p.1 : Int), .int .u16 (Q.p.2 : Int), .int .u16 (Q.q.1 : Int), .int .u16 (Q.q.2 : Int), .int .u8 (Q.m.1 : Int), .int .u8 (Q.m.2 : Int), .int .i64 Q.act] 52))) := HK1.out.tr (Kp.below ((Below.refl _ _).alloc (Nat.le_refl _) _) (Nat.le_of_lt hz1))
    have hz2 : R + 1 ≤ (w1.alloc (.cells #[.int .i64 Q.i, .int .u32 (Q.s : Int), .int .i64 Q.sl, .int .u32 (Q.d : Int), .int .i64 Q.dl, .int .u16 (Q.p.1 : Int), .int .u16 (Q.p.2 : Int), .int .u16 (Q.q.1 : Int), .int .u16 (Q.q.2 : Int), .int .u8 (Q.m.1 : Int), .int .u8 (Q.m.2 : Int), .int .i64 Q.act] 52)).heap.size := by simp; omega
    generalize hW2 : w1.alloc (.cells #[.int .i64 Q.i, .int .u32 (Q.s : Int), .int .i64 Q.sl, .int .u32 (Q.d : Int), .int .i64 Q.dl, .int .u16 (Q.p.1 : Int), .int .u16 (Q.p.2 : Int), .int .u16 (Q.q.1 : Int), .int .u16 (Q.q.2 : Int), .int .u8 (Q.m.1 : Int), .int .u8 (Q.m.2 : Int), .int .i64 Q.act] 52) = W2 at *
    clear hS hW2
    have hS := hS2
    refine ⟨trivial, ?_⟩
    refine wpAnyH_all (rs := [5]) (by kernel_rfl) (by simp) ?_
    intro i hi
    simp only [List.mem_cons, List.not_mem_nil, or_false] at hi
    subst hi
    refine wpOp_of_wp rfl rfl (fun K' hK' => ?_)
    refine wp_appendU (.tmp 3) (.tmp 7) rfl (R + 1) (.slice ad n cap) (out.map ruOf) rfl hr2 (R + 1) _ [Q] rfl hx2 hz2 (by rw [List.length_map]; have := HN.out; simp; omega) (fun v3 w3 hr3 hg3 => hK' _ _ ⟨trivial, ?_⟩)
    have hS3 : w3.heap[P]? = some (.cells #[.slice ad n cap] 33) := blk_grown hS2 hg3 (fun e => by have := (hr2.lt P e.symm).1; omega)
    have hR3 : Rdr w3 R v (O.2.a + 1) := blk_grown hR2 hg3 (fun e => by have := (hr2.lt R e.symm).1; omega)
    have HK3 : Hid (Kp P R w w3) := HK2.out.tr (Kp.below (grown_below hg3 (n := R) (by omega) (fun k hk => by have := (hr2.lt k hk).1; omega)) (Nat.le_refl _))
    obtain ⟨ad3, cap3, hv3, _, _⟩ := hr3.form
    refine wpAnyH_all (rs := [6]) (by kernel_rfl) (by simp) ?_
    intro i hi
    simp only [List.mem_cons, List.not_mem_nil, or_false] at hi
    subst hi
    refine wpOp_of_wp rfl rfl (fun K' hK' => ?_)
    refine wp_store_val 33 (.tmp 1) (.tmp 8) rfl P 0 v3 #[v3] #[v3] rfl rfl (by rw [hv3]; rfl) 33 _ hS3 (Nat.le_of_ble_eq_true rfl) rfl (by kernel_rfl) (by rw [hv3]; rfl) (fun w4 h4 ho4 => hK' _ _ ⟨trivial, ?_⟩)
    refine wpAnyH_done (by kernel_rfl) ?_ _
    simp only [List.getElem_toArray, List.getElem_cons_succ, List.getElem_cons_zero, Act.put, List.setIfInBounds_toArray, List.set_cons_zero, List.set_cons_succ]
    have HK4 : Hid (Kp P R w w4) := HK3.out.tr (Kp.onlyP ho4)
    have HR4 : Hid (Rdr w4 R v (O.2.a + 1)) := only_blk ho4 hR3 (by omega)
    have HL4 : Hid (LU w4 P R (out ++ [O.1])) := ⟨v3, h4, by rw [List.map_append, List.map_cons, List.map_nil, HQ.out]; exact hr3.onlyP ho4 (by omega)⟩
    clear h4 ho4 hS3 hR3 hr3 hg3 hS2 hr2 hR2 hx2 hS
    go_wp2_with (fail)
    exact bodyPost_end (v := .tuple #[]) (results_none rfl _ _ _) rfl ⟨HK4.out, .inr ⟨HO.out, rfl, HR4.out, HL4.out⟩⟩
  · refine wpOp_of_wp rfl rfl (fun K' hK' => ?_)
    have c0 := blk_cell (j := 0) hS rfl
    go_wp2_with (fail)
    refine ⟨trivial, ?_⟩
    clear c0
    refine wpAnyH_all (rs := [0, 3]) (by kernel_rfl) (by simp) ?_
    intro i hi
    simp only [List.mem_cons, List.not_mem_nil, or_false] at hi
    rcases hi with rfl | rfl
    · refine wpOp_of_wp rfl rfl (fun K' hK' => ?_)
      have c0 := blk_cell (j := 0) hS rfl
      go_wp2_with (fail)
      refine ⟨trivial, ?_⟩
      clear c0
      refine wpAnyH_all (rs := [3]) (by kernel_rfl) (by simp) ?_
      intro i hi
      simp only [List.mem_cons, List.not_mem_nil, or_false] at hi
      subst hi
      refine wpOp_of_wp rfl rfl (fun K' hK' => ?_)
      go_wp2_with (fail)
      refine (hRL _ hRd hAc _ hSr).mono ?_
      rintro e w1 ⟨hB, ⟨hne, F, rfl, hF, hl⟩ | ⟨h0, rfl, hR⟩⟩
      · exact ⟨rfl, (Kp.below hbd (Nat.le_of_lt hlR)).tr (Kp.but hB hlR), .inl ⟨hne, F, rfl, hF, hl⟩⟩
      have hS1 : w1.heap[P]? = some (.cells #[.slice ad n cap] 33) := hB.blk hS (by omega)
      have HRow1 : Hid (RowU w1 (R + 1) (.slice ad n cap) (out.map ruOf)) := (HRow.out.on hbd).but hB (Nat.lt_succ_self _)
      have HR1 : Hid (Rdr w1 R v (O.2.a + 1)) := hR
      have HK1 : Hid (Kp P R w w1) := (Kp.below hbd (Nat.le_of_lt hlR)).tr (Kp.but hB hlR)
      have hz1 : R < w1.heap.size := by have := hB.size; exact Nat.lt_of_lt_of_le hlR this
      have HO : Hid (O.2.w = ⟨0, 0, 0⟩) := h0
      clear hB hR h0 hRd hAc hCc hbd hRL hSr hS
      have hS := hS1
      clear hS1
      refine hK' _ _ ⟨trivial, ?_⟩
      generalize hQ : ruOf O.1 = Q at *
      have HQ : Hid (ruOf O.1 = Q) := hQ
      clear hQ
      refine wpAnyH_all (rs := [4]) (by kernel_rfl) (by simp) ?_
      intro i hi
      simp only [List.mem_cons, List.not_mem_nil, or_false] at hi
      subst hi
      refine wpOp_of_wp rfl rfl (fun K' hK' => ?_)
      go_wp2_with (fail)
      have hS2 : (w1.alloc (.cells #[.int .i64 Q.i, .int .u32 (Q.s : Int), .int .i64 Q.sl, .int .u32 (Q.d : Int), .int .i64 Q.dl, .int .u16 (Q.p.1 : Int), .int .u16 (Q.p.2 : Int), .int .u16 (Q.q.1 : Int), .int .u16 (Q.q.2 : Int), .int .u8 (Q.m.1 : Int), .int .u8 (Q.m.2 : Int), .int .i64 Q.act] 52)).heap[P]? = some (.cells #[.slice ad n cap] 33) := blk_alloc hS _
      have hx2 : RowU (w1.alloc (.cells #[.int .i64 Q.i, .int .u32 (Q.s : Int), .int .i64 Q.sl, .int .u32 (Q.d : Int), .int .i64 Q.dl, .int .u16 (Q.p.1 : Int), .int .u16 (Q.p.2 : Int), .int .u16 (Q.q.1 : Int), .int .u16 (Q.q.2 : Int), .int .u8 (Q.m.1 : Int), .int .u8 (Q.m.2 : Int), .int .i64 Q.act] 52)) (R + 1) (.slice (some ⟨w1.heap.size, 0, none⟩) 1 1) [Q] := RowU.one w1 (R + 1) Q hz1
      have hr2 : RowU (w1.alloc (.cells #[.int .i64 Q.i, .int .u32 (Q.s : Int), .int .i64 Q.sl, .int .u32 (Q.d : Int), .int .i64 Q.dl, .int .u16 (Q.p.1 : Int), .int .u16 (Q.p.2 : Int), .int .u16 (Q.q.1 : Int), .int .u16 (Q.q.2 : Int), .int .u8 (Q.m.1 : Int), .int .u8 (Q.m.2 : Int), .int .i64 Q.act] 52)) (R + 1) (.slice ad n cap) (out.map ruOf) := HRow1.out.alloc _
      have hR2 : Rdr (w1.alloc (.cells #[.int .i64 Q.i, .int .u32 (Q.s : Int), .int .i64 Q.sl, .int .u32 (Q.d : Int), .int .i64 Q.dl, .int .u16 (Q.p.1 : Int), .int .u16 (Q.p.2 : Int), .int .u16 (Q.q.1 : Int), .int .u16 (Q.q.2 : Int), .int .u8 (Q.m.1 : Int), .int .u8 (Q.m.2 : Int), .int .i64 Q.act] 52)) R v (O.2.a + 1) := blk_alloc HR1.out _
      have HK2 : Hid (Kp P R w (w1.alloc (.cells #[.int .i64 Q.i, .int .u32 (Q.s : Int), .int .i64 Q.sl, .int .u32 (Q.d : Int), .int .i64 Q.dl, .int .u16 (Q.p.1 : Int), .int .u16 (Q.p.2 : Int), .int .u16 (Q.q.1 : Int), .int .u16 (Q.q.2 : Int), .int .u8 (Q.m.1 : Int), .int .u8 (Q.m.2 : Int), .int .i64 Q.act] 52))) := HK1.out.tr (Kp.below ((Below.refl _ _).alloc (Nat.le_refl _) _) (Nat.le_of_lt hz1))
      have hz2 : R + 1 ≤ (w1.alloc (.cells #[.int .i64 Q.i, .int .u32 (Q.s : Int), .int .i64 Q.sl, .int .u32 (Q.d : Int), .int .i64 Q.dl, .int .u16 (Q.p.1 : Int), .int .u16 (Q.p.2 : Int), .int .u16 (Q.q.1 : Int), .int .u16 (Q.q.2 : Int), .int .u8 (Q.m.1 : Int), .int .u8 (Q.m.2 : Int), .int .i64 Q.act] 52)).heap.size := by simp; omega
      generalize hW2 : w1.alloc (.cells #[.int .i64 Q.i, .int .u32 (Q.s : Int), .int .i64 Q.sl, .int .u32 (Q.d : Int), .int .i64 Q.dl, .int .u16 (Q.p.1 : Int), .int .u16 (Q.p.2 : Int), .int .u16 (Q.q.1 : Int), .int .u16 (Q.q.2 : Int), .int .u8 (Q.m.1 : Int), .int .u8 (Q.m.2 : Int), .int .i64 Q.act] 52) = W2 at *
      clear hS hW2
      have hS := hS2
      refine ⟨trivial, ?_⟩
      refine wpAnyH_all (rs := [5]) (by kernel_rfl) (by simp) ?_
      intro i hi
      simp only [List.mem_cons, List.not_mem_nil, or_false] at hi
      subst hi
      refine wpOp_of_wp rfl rfl (fun K' hK' => ?_)
      refine wp_appendU (.tmp 3) (.tmp 7) rfl (R + 1) (.slice ad n cap) (out.map ruOf) rfl hr2 (R + 1) _ [Q] rfl hx2 hz2 (by rw [List.length_map]; have := HN.out; simp; omega) (fun v3 w3 hr3 hg3 => hK' _ _ ⟨trivial, ?_⟩)
      have hS3 : w3.heap[P]? = some (.cells #[.slice ad n cap] 33) := blk_grown hS2 hg3 (fun e => by have := (hr2.lt P e.symm).1; omega)
      have hR3 : Rdr w3 R v (O.2.a + 1) := blk_grown hR2 hg3 (fun e => by have := (hr2.lt R e.symm).1; omega)
      have HK3 : Hid (Kp P R w w3) := HK2.out.tr (Kp.below (grown_below hg3 (n := R) (by omega) (fun k hk => by have := (hr2.lt k hk).1; omega)) (Nat.le_refl _))
      obtain ⟨ad3, cap3, hv3, _, _⟩ := hr3.form
      refine wpAnyH_all (rs := [6]) (by kernel_rfl) (by simp) ?_
      intro i hi
      simp only [List.mem_cons, List.not_mem_nil, or_false] at hi
      subst hi
      refine wpOp_of_wp rfl rfl (fun K' hK' => ?_)
      refine wp_store_val 33 (.tmp 1) (.tmp 8) rfl P 0 v3 #[v3] #[v3] rfl rfl (by rw [hv3]; rfl) 33 _ hS3 (Nat.le_of_ble_eq_true rfl) rfl (by kernel_rfl) (by rw [hv3]; rfl) (fun w4 h4 ho4 => hK' _ _ ⟨trivial, ?_⟩)
      refine wpAnyH_done (by kernel_rfl) ?_ _
      simp only [List.getElem_toArray, List.getElem_cons_succ, List.getElem_cons_zero, Act.put, List.setIfInBounds_toArray, List.set_cons_zero, List.set_cons_succ]
      have HK4 : Hid (Kp P R w w4) := HK3.out.tr (Kp.onlyP ho4)
      have HR4 : Hid (Rdr w4 R v (O.2.a + 1)) := only_blk ho4 hR3 (by omega)
      have HL4 : Hid (LU w4 P R (out ++ [O.1])) := ⟨v3, h4, by rw [List.map_append, List.map_cons, List.map_nil, HQ.out]; exact hr3.onlyP ho4 (by omega)⟩
      clear h4 ho4 hS3 hR3 hr3 hg3 hS2 hr2 hR2 hx2 hS
      go_wp2_with (fail)
      exact bodyPost_end (v := .tuple #[]) (results_none rfl _ _ _) rfl ⟨HK4.out, .inr ⟨HO.out, rfl, HR4.out, HL4.out⟩⟩
    · refine wpOp_of_wp rfl rfl (fun K' hK' => ?_)
      go_wp2_with (fail)
      refine (hRL _ hRd hAc _ hSr).mono ?_
      rintro e w1 ⟨hB, ⟨hne, F, rfl, hF, hl⟩ | ⟨h0, rfl, hR⟩⟩
      · exact ⟨rfl, (Kp.below hbd (Nat.le_of_lt hlR)).tr (Kp.but hB hlR), .inl ⟨hne, F, rfl, hF, hl⟩⟩
      have hS1 : w1.heap[P]? = some (.cells #[.slice ad n cap] 33) := hB.blk hS (by omega)
      have HRow1 : Hid (RowU w1 (R + 1) (.slice ad n cap) (out.map ruOf)) := (HRow.out.on hbd).but hB (Nat.lt_succ_self _)
      have HR1 : Hid (Rdr w1 R v (O.2.a + 1)) := hR
      have HK1 : Hid (Kp P R w w1) := (Kp.below hbd (Nat.le_of_lt hlR)).tr (Kp.but hB hlR)
      have hz1 : R < w1.heap.size := by have := hB.size; exact Nat.lt_of_lt_of_le hlR this
      have HO : Hid (O.2.w = ⟨0, 0, 0⟩) := h0
      clear hB hR h0 hRd hAc hCc hbd hRL hSr hS
      have hS := hS1
      clear hS1
      refine hK' _ _ ⟨trivial, ?_⟩
      generalize hQ : ruOf O.1 = Q at *
      have HQ : Hid (ruOf O.1 = Q) := hQ
      clear hQ
      refine wpAnyH_all (rs := [0, 4]) (by kernel_rfl) (by simp) ?_
      intro i hi
      simp only [List.mem_cons, List.not_mem_nil, or_false] at hi
      rcases hi with rfl | rfl
      · refine wpOp_of_wp rfl rfl (fun K' hK' => ?_)
        have c0 := blk_cell (j := 0) hS rfl
        go_wp2_with (fail)
        refine ⟨trivial, ?_⟩
        clear c0
        refine wpAnyH_all (rs := [4]) (by kernel_rfl) (by simp) ?_
        intro i hi
        simp only [List.mem_cons, List.not_mem_nil, or_false] at hi
        subst hi
        refine wpOp_of_wp rfl rfl (fun K' hK' => ?_)
        go_wp2_with (fail)
        have hS2 : (w1.alloc (.cells #[.int .i64 Q.i, .int .u32 (Q.s : Int), .int .i64 Q.sl, .int .u32 (Q.d : Int), .int .i64 Q.dl, .int .u16 (Q.p.1 : Int), .int .u16 (Q.p.2 : Int), .int .u16 (Q.q.1 : Int), .int .u16 (Q.q.2 : Int), .int .u8 (Q.m.1 : Int), .int .u8 (Q.m.2 : Int), .int .i64 Q.act] 52)).heap[P]? = some (.cells #[.slice ad n cap] 33) := blk_alloc hS _
        have hx2 : RowU (w1.alloc (.cells #[.int .i64 Q.i, .int .u32 (Q.s : Int), .int .i64 Q.sl, .int .u32 (Q.d : Int), .int .i64 Q.dl, .int .u16 (Q.p.1 : Int), .int .u16 (Q.p.2 : Int), .int .u16 (Q.q.1 : Int), .int .u16 (Q.q.2 : Int), .int .u8 (Q.m.1 : Int), .int .u8 (Q.m.2 : Int), .int .i64 Q.act] 52)) (R + 1) (.slice (some ⟨w1.heap.size, 0, none⟩) 1 1) [Q] := RowU.one w1 (R + 1) Q hz1
        have hr2 : RowU (w1.alloc (.cells #[.int .i64 Q.i, .int .u32 (Q.s : Int), .int .i64 Q.sl, .int .u32 (Q.d : Int), .int .i64 Q.dl, .int .u16 (Q.p.1 : Int), .int .u16 (Q.p.2 : Int), .int .u16 (Q.q.1 : Int), .int .u16 (Q.q.2 : Int), .int .u8 (Q.m.1 : Int), .int .u8 (Q.m.2 : Int), .int .i64 Q.act] 52)) (R + 1) (.slice ad n cap) (out.map ruOf) := HRow1.out.alloc _
        have hR2 : Rdr (w1.alloc (.cells #[.int .i64 Q.i, .int .u32 (Q.s : Int), .int .i64 Q.sl, .int .u32 (Q.d : Int), .int .i64 Q.dl, .int .u16 (Q.p.1 : Int), .int .u16 (Q.p.2 : Int), .int .u16 (Q.q.1 : Int), .int .u16 (Q.q.2 : Int), .int .u8 (Q.m.1 : Int), .int .u8 (Q.m.2 : Int), .int .i64 Q.act] 52)) R v (O.2.a + 1) := blk_alloc HR1.out _
        have HK2 : Hid (Kp P R w (w1.alloc (.cells #[.int .i64 Q.i, .int .u32 (Q.s : Int), .int .i64 Q.sl, .int .u32 (Q.d : Int), .int .i64 Q.dl, .int .u16 (Q.p.1 : Int), .int .u16 (Q.p.2 : Int), .int .u16 (Q.q.1 : Int), .int .u16 (Q.q.2 : Int), .int .u8 (Q.m.1 : Int), .int .u8 (Q.m.2 : Int), .int .i64 Q.act] 52))) := HK1.out.tr (Kp.below ((Below.refl _ _).alloc (Nat.le_refl _) _) (Nat.le_of_lt hz1))
        have hz2 : R + 1 ≤ (w1.alloc (.cells #[.int .i64 Q.i, .int .u32 (Q.s : Int), .int .i64 Q.sl, .int .u32 (Q.d : Int), .int .i64 Q.dl, .int .u16 (Q.p.1 : Int), .int .u16 (Q.p.2 : Int), .int .u16 (Q.q.1 : Int), .int .u16 (Q.q.2 : Int), .int .u8 (Q.m.1 : Int), .int .u8 (Q.m.2 : Int), .int .i64 Q.act] 52)).heap.size := by simp; omega
        generalize hW2 : w1.alloc (.cells #[.int .i64 Q.i, .int .u32 (Q.s : Int), .int .i64 Q.sl, .int .u32 (Q.d : Int), .int .i64 Q.dl, .int .u16 (Q.p.1 : Int), .int .u16 (Q.p.2 : Int), .int .u16 (Q.q.1 : Int), .int .u16 (Q.q.2 : Int), .int .u8 (Q.m.1 : Int), .int .u8 (Q.m.2 : Int), .int .i64 Q.act] 52) = W2 at *
        clear hS hW2
        have hS := hS2
        refine ⟨trivial, ?_⟩
        refine wpAnyH_all (rs := [5]) (by kernel_rfl) (by simp) ?_
        intro i hi
        simp only [List.mem_cons, List.not_mem_nil, or_false] at hi
        subst hi
        refine wpOp_of_wp rfl rfl (fun K' hK' => ?_)
        refine wp_appendU (.tmp 3) (.tmp 7) rfl (R + 1) (.slice ad n cap) (out.map ruOf) rfl hr2 (R + 1) _ [Q] rfl hx2 hz2 (by rw [List.length_map]; have := HN.out; simp; omega) (fun v3 w3 hr3 hg3 => hK' _ _ ⟨trivial, ?_⟩)
        have hS3 : w3.heap[P]? = some (.cells #[.slice ad n cap] 33) := blk_grown hS2 hg3 (fun e => by have := (hr2.lt P e.symm).1; omega)
        have hR3 : Rdr w3 R v (O.2.a + 1) := blk_grown hR2 hg3 (fun e => by have := (hr2.lt R e.symm).1; omega)
        have HK3 : Hid (Kp P R w w3) := HK2.out.tr (Kp.below (grown_below hg3 (n := R) (by omega) (fun k hk => by have := (hr2.lt k hk).1; omega)) (Nat.le_refl _))
        obtain ⟨ad3, cap3, hv3, _, _⟩ := hr3.form
        refine wpAnyH_all (rs := [6]) (by kernel_rfl) (by simp) ?_
        intro i hi
        simp only [List.mem_cons, List.not_mem_nil, or_false] at hi
        subst hi
        refine wpOp_of_wp rfl rfl (fun K' hK' => ?_)
        refine wp_store_val 33 (.tmp 1) (.tmp 8) rfl P 0 v3 #[v3] #[v3] rfl rfl (by rw [hv3]; rfl) 33 _ hS3 (Nat.le_of_ble_eq_true rfl) rfl (by kernel_rfl) (by rw [hv3]; rfl) (fun w4 h4 ho4 => hK' _ _ ⟨trivial, ?_⟩)
        refine wpAnyH_done (by kernel_rfl) ?_ _
        simp only [List.getElem_toArray, List.getElem_cons_succ, List.getElem_cons_zero, Act.put, List.setIfInBounds_toArray, List.set_cons_zero, List.set_cons_succ]
        have HK4 : Hid (Kp P R w w4) := HK3.out.tr (Kp.onlyP ho4)
        have HR4 : Hid (Rdr w4 R v (O.2.a + 1)) := only_blk ho4 hR3 (by omega)
        have HL4 : Hid (LU w4 P R (out ++ [O.1])) := ⟨v3, h4, by rw [List.map_append, List.map_cons, List.map_nil, HQ.out]; exact hr3.onlyP ho4 (by omega)⟩
        clear h4 ho4 hS3 hR3 hr3 hg3 hS2 hr2 hR2 hx2 hS
        go_wp2_with (fail)
        exact bodyPost_end (v := .tuple #[]) (results_none rfl _ _ _) rfl ⟨HK4.out, .inr ⟨HO.out, rfl, HR4.out, HL4.out⟩⟩
      · refine wpOp_of_wp rfl rfl (fun K' hK' => ?_)
        go_wp2_with (fail)
        have hS2 : (w1.alloc (.cells #[.int .i64 Q.i, .int .u32 (Q.s : Int), .int .i64 Q.sl, .int .u32 (Q.d : Int), .int .i64 Q.dl, .int .u16 (Q.p.1 : Int), .int .u16 (Q.p.2 : Int), .int .u16 (Q.q.1 : Int), .int .u16 (Q.q.2 : Int), .int .u8 (Q.m.1 : Int), .int .u8 (Q.m.2 : Int), .int .i64 Q.act] 52)).heap[P]? = some (.cells #[.slice ad n cap] 33) := blk_alloc hS _
        have hx2 : RowU (w1.alloc (.cells #[.int .i64 Q.i, .int .u32 (Q.s : Int), .int .i64 Q.sl, .int .u32 (Q.d : Int), .int .i64 Q.dl, .int .u16 (Q.p.1 : Int), .int .u16 (Q.p.2 : Int), .int .u16 (Q.q.1 : Int), .int .u16 (Q.q.2 : Int), .int .u8 (Q.m.1 : Int), .int .u8 (Q.m.2 : Int), .int .i64 Q.act] 52)) (R + 1) (.slice (some ⟨w1.heap.size, 0, none⟩) 1 1) [Q] := RowU.one w1 (R + 1) Q hz1
        have hr2 : RowU (w1.alloc (.cells #[.int .i64 Q.i, .int .u32 (Q.s : Int), .int .i64 Q.sl, .int .u32 (Q.d : Int), .int .i64 Q.dl, .int .u16 (Q.p.1 : Int), .int .u16 (Q.p.2 : Int), .int .u16 (Q.q.1 : Int), .int .u16 (Q.q.2 : Int), .int .u8 (Q.m.1 : Int), .int .u8 (Q.m.2 : Int), .int .i64 Q.act] 52)) (R + 1) (.slice ad n cap) (out.map ruOf) := HRow1.out.alloc _
        have hR2 : Rdr (w1.alloc (.cells #[.int .i64 Q.i, .int .u32 (Q.s : Int), .int .i64 Q.sl, .int .u32 (Q.d : Int), .int .i64 Q.dl, .int .u16 (Q.p.1 : Int), .int .u16 (Q.p.2 : Int), .int .u16 (Q.q.1 : Int), .int .u16 (Q.q.2 : Int), .int .u8 (Q.m.1 : Int), .int .u8 (Q.m.2 : Int), .int .i64 Q.act] 52)) R v (O.2.a + 1) := blk_alloc HR1.out _
        have HK2 : Hid (Kp P R w (w1.alloc (.cells #[.int .i64 Q.i, .int .u32 (Q.s : Int), .int .i64 Q.sl, .int .u32 (Q.d : Int), .int .i64 Q.dl, .int .u16 (Q.p.1 : Int), .int .u16 (Q.p.2 : Int), .int .u16 (Q.q.1 : Int), .int .u16 (Q.q.2 : Int), .int .u8 (Q.m.1 : Int), .int .u8 (Q.m.2 : Int), .int .i64 Q.act] 52))) := HK1.out.tr (Kp.below ((Below.refl _ _).alloc (Nat.le_refl _) _) (Nat.le_of_lt hz1))
        have hz2 : R + 1 ≤ (w1.alloc (.cells #[.int .i64 Q.i, .int .u32 (Q.s : Int), .int .i64 Q.sl, .int .u32 (Q.d : Int), .int .i64 Q.dl, .int .u16 (Q.p.1 : Int), .int .u16 (Q.p.2 : Int), .int .u16 (Q.q.1 : Int), .int .u16 (Q.q.2 : Int), .int .u8 (Q.m.1 : Int), .int .u8 (Q.m.2 : Int), .int .i64 Q.act] 52)).heap.size := by simp; omega
        generalize hW2 : w1.alloc (.cells #[.int .i64 Q.i, .int .u32 (Q.s : Int), .int .i64 Q.sl, .int .u32 (Q.d : Int), .int .i64 Q.dl, .int .u16 (Q.p.1 : Int), .int .u16 (Q.p.2 : Int), .int .u16 (Q.q.1 : Int), .int .u16 (Q.q.2 : Int), .int .u8 (Q.m.1 : Int), .int .u8 (Q.m.2 : Int), .int .i64 Q.act] 52) = W2 at *
        clear hS hW2
        have hS := hS2
        refine ⟨trivial, ?_⟩
        refine wpAnyH_all (rs := [0]) (by kernel_rfl) (by simp) ?_
        intro i hi
        simp only [List.mem_cons, List.not_mem_nil, or_false] at hi
        subst hi
        refine wpOp_of_wp rfl rfl (fun K' hK' => ?_)
        have c0 := blk_cell (j := 0) hS rfl
        go_wp2_with (fail)
        refine ⟨trivial, ?_⟩
        clear c0
        refine wpAnyH_all (rs := [5]) (by kernel_rfl) (by simp) ?_
        intro i hi
        simp only [List.mem_cons, List.not_mem_nil, or_false] at hi
        subst hi
        refine wpOp_of_wp rfl rfl (fun K' hK' => ?_)
        refine wp_appendU (.tmp 3) (.tmp 7) rfl (R + 1) (.slice ad n cap) (out.map ruOf) rfl hr2 (R + 1) _ [Q] rfl hx2 hz2 (by rw [List.length_map]; have := HN.out; simp; omega) (fun v3 w3 hr3 hg3 => hK' _ _ ⟨trivial, ?_⟩)
        have hS3 : w3.heap[P]? = some (.cells #[.slice ad n cap] 33) := blk_grown hS2 hg3 (fun e => by have := (hr2.lt P e.symm).1; omega)
        have hR3 : Rdr w3 R v (O.2.a + 1) := blk_grown hR2 hg3 (fun e => by have := (hr2.lt R e.symm).1; omega)
        have HK3 : Hid (Kp P R w w3) := HK2.out.tr (Kp.below (grown_below hg3 (n := R) (by omega) (fun k hk => by have := (hr2.lt k hk).1; omega)) (Nat.le_refl _))
        obtain ⟨ad3, cap3, hv3, _, _⟩ := hr3.form
        refine wpAnyH_all (rs := [6]) (by kernel_rfl) (by simp) ?_
        intro i hi
        simp only [List.mem_cons, List.not_mem_nil, or_false] at hi
        subst hi
        refine wpOp_of_wp rfl rfl (fun K' hK' => ?_)
        refine wp_store_val 33 (.tmp 1) (.tmp 8) rfl P 0 v3 #[v3] #[v3] rfl rfl (by rw [hv3]; rfl) 33 _ hS3 (Nat.le_of_ble_eq_true rfl) rfl (by kernel_rfl) (by rw [hv3]; rfl) (fun w4 h4 ho4 => hK' _ _ ⟨trivial, ?_⟩)
        refine wpAnyH_done (by kernel_rfl) ?_ _
        simp only [List.getElem_toArray, List.getElem_cons_succ, List.getElem_cons_zero, Act.put, List.setIfInBounds_toArray, List.set_cons_zero, List.set_cons_succ]
        have HK4 : Hid (Kp P R w w4) := HK3.out.tr (Kp.onlyP ho4)
        have HR4 : Hid (Rdr w4 R v (O.2.a + 1)) := only_blk ho4 hR3 (by omega)
        have HL4 : Hid (LU w4 P R (out ++ [O.1])) := ⟨v3, h4, by rw [List.map_append, List.map_cons, List.map_nil, HQ.out]; exact hr3.onlyP ho4 (by omega)⟩
        clear h4 ho4 hS3 hR3 hr3 hg3 hS2 hr2 hR2 hx2 hS
        go_wp2_with (fail)
        exact bodyPost_end (v := .tuple #[]) (results_none rfl _ _ _) rfl ⟨HK4.out, .inr ⟨HO.out, rfl, HR4.out, HL4.out⟩⟩

/-- The list's variable P: the list so far, in blocks behind the reader's. -/
def LV (w : World) (P R : Nat) (out : List Cm) : Prop := ∃ u : Value, w.heap[P]? = some (.cells #[u] 23) ∧ RowV w (R + 1) u (out.map cvOf)
theorem RowV.but {R b : Nat} {w w1 : World} {u : Value} {l : List Cv} (h : RowV w b u l) (hb : But R w w1) (hR : R < b) : RowV w1 b u l := by
  refine ⟨h.1, ?_⟩
  rcases h.2 with h2 | ⟨g, cap, cur, hv, hg, hh, r⟩
  · exact .inl h2
  · exact .inr ⟨g, cap, cur, hv, hg, by rw [hb.block g (blk_lt hh) (by omega)]; exact hh, r⟩
theorem RowV.onlyP {P b : Nat} {w w1 : World} {u : Value} {l : List Cv} (h : RowV w b u l) (ho : Only P w w1) (hP : P < b) : RowV w1 b u l := by
  refine ⟨h.1, ?_⟩
  rcases h.2 with h2 | ⟨g, cap, cur, hv, hg, hh, r⟩
  · exact .inl h2
  · exact .inr ⟨g, cap, cur, hv, hg, by rw [ho.block g (by omega)]; exact hh, r⟩
set_option maxRecDepth 20000 in
set_option maxHeartbeats 16000000 in
theorem scriptStep (w : World) (P R b a : Nat) (v : Value) (L : List Tk) (h : RAt w R b v L a) (hA : ActAt zA w) (hC : CmdAt zC w) (hgP : 8 < P) (hPR : P < R) (hOv : Old R v) (out : List Cm) (hL : LV w P R out) (hmx : out.length ≤ 1000) :
    Calls Tryz.prog 18 #[.pointer (some ⟨R, 0, none⟩), .pointer (some ⟨P, 0, none⟩)] w fun e w' => Kp P R w w' ∧ (((oneC chkN L out.length a).2.w.e ≠ 0 ∧ Bad w.heap.size (oneC chkN L out.length a).2.w e w') ∨ ((oneC chkN L out.length a).2.w = ⟨0, 0, 0⟩ ∧ e = .returned (.tuple #[]) ∧ Rdr w' R v ((oneC chkN L out.length a).2.a + 1) ∧ LV w' P R (out ++ [(oneC chkN L out.length a).1]))) := by
  have hRL : ∀ W : World, RAt W R b v L a → ActAt zA W → CmdAt zC W → Calls Tryz.prog 19 #[.pointer (some ⟨R, 0, none⟩), .int .i64 (out.length : Int)] W _ := fun W h1 h2 h3 => commandLineC W R b a v L h1 h2 h3 (by omega) out.length hmx
  have hRd0 := h
  have hlR : R < w.heap.size := blk_lt h.r
  generalize oneC chkN L out.length a = O at *
  obtain ⟨u, hP, hrow⟩ := hL
  obtain ⟨ad, cap, rfl, hcap, _⟩ := hrow.form
  have hlen : (out.map cvOf).length = out.length := List.length_map ..
  rw [hlen] at hP hrow
  obtain ⟨n, hn⟩ : ∃ n, n = out.length := ⟨_, rfl⟩
  rw [← hn] at hP hrow hRL
  have HN : Hid (n = out.length) := hn
  have HOf : Off R (.slice ad n cap) := fun k hk e => by have := (hrow.lt k hk).1; omega
  have HRow : Hid (RowV w (R + 1) (.slice ad n cap) (out.map cvOf)) := hrow
  have HAt : Hid (RAt w R b v L a) := h
  have HA : Hid (ActAt zA w) := hA
  have HC : Hid (CmdAt zC w) := hC
  have HP : Hid (w.heap[P]? = some (.cells #[.slice ad n cap] 23)) := hP
  have hn0 : (n : Int) ≤ 1000 := by omega
  clear hn hlen hrow hP h hA hC hRd0
  go_enter Tryz.func18, Tryz.ntmps18
  go_upto_region 0 with (fail)
  refine wp_region_held_drew (S := fun _ => True) (by kernel_rfl) trivial (fun hS0 => ?_)
  show wpAnyH _ _ _ _ _ 8 _ _ _
  refine wpAnyH_take (i := 1) (v := .pointer (some ⟨R, 0, none⟩)) rfl (by kernel_rfl) (by kernel_rfl) (by kernel_rfl) (fun _ _ _ h => h) (.inl ⟨rfl, fun w' hw' => by simp [execOp, go_sem]⟩) hS0 ?_
  simp only [List.getElem_toArray, List.getElem_cons_succ, List.getElem_cons_zero, Act.put, List.setIfInBounds_toArray, List.set_cons_zero, List.set_cons_succ]
  have hbd : Below w.heap.size w w.drew := (Below.refl _ _).drew
  have hRd : RAt w.drew R b v L a := HAt.out.on hbd
  have hAc : ActAt zA w.drew := HA.out
  have hCc : CmdAt zC w.drew := HC.out
  have hS : w.drew.heap[P]? = some (.cells #[.slice ad n cap] 23) := HP.out
  refine wpAnyH_all (rs := [0, 2]) (by kernel_rfl) (by simp) ?_
  intro i hi
  simp only [List.mem_cons, List.not_mem_nil, or_false] at hi
  rcases hi with rfl | rfl
  · refine wpOp_of_wp rfl rfl (fun K' hK' => ?_)
    have c0 := blk_cell (j := 0) hS rfl
    go_wp2_with (fail)
    refine ⟨trivial, ?_⟩
    clear c0
    refine wpAnyH_all (rs := [2]) (by kernel_rfl) (by simp) ?_
    intro i hi
    simp only [List.mem_cons, List.not_mem_nil, or_false] at hi
    subst hi
    refine wpOp_of_wp rfl rfl (fun K' hK' => ?_)
    have c0 := blk_cell (j := 0) hS rfl
    go_wp2_with (fail)
    refine ⟨trivial, ?_⟩
    clear c0
    refine wpAnyH_take (i := 3) (v := .int .i64 (n : Int)) rfl (by kernel_rfl) (by kernel_rfl) (by kernel_rfl) (fun _ _ _ h => h) (.inl ⟨rfl, fun w' hw' => by simp [execOp, go_sem]⟩) hS0 ?_
    simp only [List.getElem_toArray, List.getElem_cons_succ, List.getElem_cons_zero, Act.put, List.setIfInBounds_toArray, List.set_cons_zero, List.set_cons_succ]
    refine wpAnyH_all (rs := [4]) (by kernel_rfl) (by simp) ?_
    intro i hi
    simp only [List.mem_cons, List.not_mem_nil, or_false] at hi
    subst hi
    refine wpOp_of_wp rfl rfl (fun K' hK' => ?_)
    go_wp2_with (fail)
    refine (hRL _ hRd hAc hCc).mono ?_
    rintro e w1 ⟨hB, ⟨hne, F, rfl, hF, hl⟩ | ⟨h0, rfl, hR⟩⟩
    · exact ⟨rfl, (Kp.below hbd (Nat.le_of_lt hlR)).tr (Kp.but hB hlR), .inl ⟨hne, F, rfl, hF, hl⟩⟩
    have hS1 : w1.heap[P]? = some (.cells #[.slice ad n cap] 23) := hB.blk hS (by omega)
    have HRow1 : Hid (RowV w1 (R + 1) (.slice ad n cap) (out.map cvOf)) := (HRow.out.on hbd).but hB (Nat.lt_succ_self _)
    have HR1 : Hid (Rdr w1 R v (O.2.a + 1)) := hR
    have HK1 : Hid (Kp P R w w1) := (Kp.below hbd (Nat.le_of_lt hlR)).tr (Kp.but hB hlR)
    have hz1 : R < w1.heap.size := by have := hB.size; exact Nat.lt_of_lt_of_le hlR this
    have HO : Hid (O.2.w = ⟨0, 0, 0⟩) := h0
    clear hB hR h0 hRd hAc hCc hbd hRL hS
    have hS := hS1
    clear hS1
    refine hK' _ _ ⟨trivial, ?_⟩
    generalize hQ : cvOf O.1 = Q at *
    have HQ : Hid (cvOf O.1 = Q) := hQ
    clear hQ
    refine wpAnyH_all (rs := [5]) (by kernel_rfl) (by simp) ?_
    intro i hi
    simp only [List.mem_cons, List.not_mem_nil, or_false] at hi
    subst hi
    refine wpOp_of_wp rfl rfl (fun K' hK' => ?_)
    go_wp2_with (fail)
    have hS2 : (w1.alloc (.cells #[.int .i64 Q.k, .int .i64 Q.n, .int .i64 Q.i, .int .i64 Q.r.i, .int .u32 (Q.r.s : Int), .int .i64 Q.r.sl, .int .u32 (Q.r.d : Int), .int .i64 Q.r.dl, .int .u16 (Q.r.p.1 : Int), .int .u16 (Q.r.p.2 : Int), .int .u16 (Q.r.q.1 : Int), .int .u16 (Q.r.q.2 : Int), .int .u8 (Q.r.m.1 : Int), .int .u8 (Q.r.m.2 : Int), .int .i64 Q.r.act, .int .u32 (Q.h.1 : Int), .int .u32 (Q.h.2.1 : Int), .int .u16 (Q.h.2.2.1 : Int), .int .u16 (Q.h.2.2.2.1 : Int), .int .u8 (Q.h.2.2.2.2 : Int)] 61)).heap[P]? = some (.cells #[.slice ad n cap] 23) := blk_alloc hS _
    have hx2 : RowV (w1.alloc (.cells #[.int .i64 Q.k, .int .i64 Q.n, .int .i64 Q.i, .int .i64 Q.r.i, .int .u32 (Q.r.s : Int), .int .i64 Q.r.sl, .int .u32 (Q.r.d : Int), .int .i64 Q.r.dl, .int .u16 (Q.r.p.1 : Int), .int .u16 (Q.r.p.2 : Int), .int .u16 (Q.r.q.1 : Int), .int .u16 (Q.r.q.2 : Int), .int .u8 (Q.r.m.1 : Int), .int .u8 (Q.r.m.2 : Int), .int .i64 Q.r.act, .int .u32 (Q.h.1 : Int), .int .u32 (Q.h.2.1 : Int), .int .u16 (Q.h.2.2.1 : Int), .int .u16 (Q.h.2.2.2.1 : Int), .int .u8 (Q.h.2.2.2.2 : Int)] 61)) (R + 1) (.slice (some ⟨w1.heap.size, 0, none⟩) 1 1) [Q] := RowV.one w1 (R + 1) Q hz1
    have hr2 : RowV (w1.alloc (.cells #[.int .i64 Q.k, .int .i64 Q.n, .int .i64 Q.i, .int .i64 Q.r.i, .int .u32 (Q.r.s : Int), .int .i64 Q.r.sl, .int .u32 (Q.r.d : Int), .int .i64 Q.r.dl, .int .u16 (Q.r.p.1 : Int), .int .u16 (Q.r.p.2 : Int), .int .u16 (Q.r.q.1 : Int), .int .u16 (Q.r.q.2 : Int), .int .u8 (Q.r.m.1 : Int), .int .u8 (Q.r.m.2 : Int), .int .i64 Q.r.act, .int .u32 (Q.h.1 : Int), .int .u32 (Q.h.2.1 : Int), .int .u16 (Q.h.2.2.1 : Int), .int .u16 (Q.h.2.2.2.1 : Int), .int .u8 (Q.h.2.2.2.2 : Int)] 61)) (R + 1) (.slice ad n cap) (out.map cvOf) := HRow1.out.alloc _
    have hR2 : Rdr (w1.alloc (.cells #[.int .i64 Q.k, .int .i64 Q.n, .int .i64 Q.i, .int .i64 Q.r.i, .int .u32 (Q.r.s : Int), .int .i64 Q.r.sl, .int .u32 (Q.r.d : Int), .int .i64 Q.r.dl, .int .u16 (Q.r.p.1 : Int), .int .u16 (Q.r.p.2 : Int), .int .u16 (Q.r.q.1 : Int), .int .u16 (Q.r.q.2 : Int), .int .u8 (Q.r.m.1 : Int), .int .u8 (Q.r.m.2 : Int), .int .i64 Q.r.act, .int .u32 (Q.h.1 : Int), .int .u32 (Q.h.2.1 : Int), .int .u16 (Q.h.2.2.1 : Int), .int .u16 (Q.h.2.2.2.1 : Int), .int .u8 (Q.h.2.2.2.2 : Int)] 61)) R v (O.2.a + 1) := blk_alloc HR1.out _
    have HK2 : Hid (Kp P R w (w1.alloc (.cells #[.int .i64 Q.k, .int .i64 Q.n, .int .i64 Q.i, .int .i64 Q.r.i, .int .u32 (Q.r.s : Int), .int .i64 Q.r.sl, .int .u32 (Q.r.d : Int), .int .i64 Q.r.dl, .int .u16 (Q.r.p.1 : Int), .int .u16 (Q.r.p.2 : Int), .int .u16 (Q.r.q.1 : Int), .int .u16 (Q.r.q.2 : Int), .int .u8 (Q.r.m.1 : Int), .int .u8 (Q.r.m.2 : Int), .int .i64 Q.r.act, .int .u32 (Q.h.1 : Int), .int .u32 (Q.h.2.1 : Int), .int .u16 (Q.h.2.2.1 : Int), .int .u16 (Q.h.2.2.2.1 : Int), .int .u8 (Q.h.2.2.2.2 : Int)] 61))) := HK1.out.tr (Kp.below ((Below.refl _ _).alloc (Nat.le_refl _) _) (Nat.le_of_lt hz1))
    have hz2 : R + 1 ≤ (w1.alloc (.cells #[.int .i64 Q.k, .int .i64 Q.n, .int .i64 Q.i, .int .i64 Q.r.i, .int .u32 (Q.r.s : Int), .int .i64 Q.r.sl, .int .u32 (Q.r.d : Int), .int .i64 Q.r.dl, .int .u16 (Q.r.p.1 : Int), .int .u16 (Q.r.p.2 : Int), .int .u16 (Q.r.q.1 : Int), .int .u16 (Q.r.q.2 : Int), .int .u8 (Q.r.m.1 : Int), .int .u8 (Q.r.m.2 : Int), .int .i64 Q.r.act, .int .u32 (Q.h.1 : Int), .int .u32 (Q.h.2.1 : Int), .int .u16 (Q.h.2.2.1 : Int), .int .u16 (Q.h.2.2.2.1 : Int), .int .u8 (Q.h.2.2.2.2 : Int)] 61)).heap.size := by simp; omega
    generalize hW2 : w1.alloc (.cells #[.int .i64 Q.k, .int .i64 Q.n, .int .i64 Q.i, .int .i64 Q.r.i, .int .u32 (Q.r.s : Int), .int .i64 Q.r.sl, .int .u32 (Q.r.d : Int), .int .i64 Q.r.dl, .int .u16 (Q.r.p.1 : Int), .int .u16 (Q.r.p.2 : Int), .int .u16 (Q.r.q.1 : Int), .int .u16 (Q.r.q.2 : Int), .int .u8 (Q.r.m.1 : Int), .int .u8 (Q.r.m.2 : Int), .int .i64 Q.r.act, .int .u32 (Q.h.1 : Int), .int .u32 (Q.h.2.1 : Int), .int .u16 (Q.h.2.2.1 : Int), .int .u16 (Q.h.2.2.2.1 : Int), .int .u8 (Q.h.2.2.2.2 : Int)] 61) = W2 at *
    clear hS hW2
    have hS := hS2
    refine ⟨trivial, ?_⟩
    refine wpAnyH_all (rs := [6]) (by kernel_rfl) (by simp) ?_
    intro i hi
    simp only [List.mem_cons, List.not_mem_nil, or_false] at hi
    subst hi
    refine wpOp_of_wp rfl rfl (fun K' hK' => ?_)
    refine wp_appendV (.tmp 3) (.tmp 8) rfl (R + 1) (.slice ad n cap) (out.map cvOf) rfl hr2 (R + 1) _ [Q] rfl hx2 hz2 (by rw [List.length_map]; have := HN.out; simp; omega) (fun v3 w3 hr3 hg3 => hK' _ _ ⟨trivial, ?_⟩)
    have hS3 : w3.heap[P]? = some (.cells #[.slice ad n cap] 23) := blk_grown hS2 hg3 (fun e => by have := (hr2.lt P e.symm).1; omega)
    have hR3 : Rdr w3 R v (O.2.a + 1) := blk_grown hR2 hg3 (fun e => by have := (hr2.lt R e.symm).1; omega)
    have HK3 : Hid (Kp P R w w3) := HK2.out.tr (Kp.below (grown_below hg3 (n := R) (by omega) (fun k hk => by have := (hr2.lt k hk).1; omega)) (Nat.le_refl _))
    obtain ⟨ad3, cap3, hv3, _, _⟩ := hr3.form
    refine wpAnyH_all (rs := [7]) (by kernel_rfl) (by simp) ?_
    intro i hi
    simp only [List.mem_cons, List.not_mem_nil, or_false] at hi
    subst hi
    refine wpOp_of_wp rfl rfl (fun K' hK' => ?_)
    refine wp_store_val 23 (.tmp 1) (.tmp 9) rfl P 0 v3 #[v3] #[v3] rfl rfl (by rw [hv3]; rfl) 23 _ hS3 (Nat.le_of_ble_eq_true rfl) rfl (by kernel_rfl) (by rw [hv3]; rfl) (fun w4 h4 ho4 => hK' _ _ ⟨trivial, ?_⟩)
    refine wpAnyH_done (by kernel_rfl) ?_ _
    simp only [List.getElem_toArray, List.getElem_cons_succ, List.getElem_cons_zero, Act.put, List.setIfInBounds_toArray, List.set_cons_zero, List.set_cons_succ]
    have HK4 : Hid (Kp P R w w4) := HK3.out.tr (Kp.onlyP ho4)
    have HR4 : Hid (Rdr w4 R v (O.2.a + 1)) := only_blk ho4 hR3 (by omega)
    have HL4 : Hid (LV w4 P R (out ++ [O.1])) := ⟨v3, h4, by rw [List.map_append, List.map_cons, List.map_nil, HQ.out]; exact hr3.onlyP ho4 (by omega)⟩
    clear h4 ho4 hS3 hR3 hr3 hg3 hS2 hr2 hR2 hx2 hS
    go_wp2_with (fail)
    exact bodyPost_end (v := .tuple #[]) (results_none rfl _ _ _) rfl ⟨HK4.out, .inr ⟨HO.out, rfl, HR4.out, HL4.out⟩⟩
  · refine wpOp_of_wp rfl rfl (fun K' hK' => ?_)
    have c0 := blk_cell (j := 0) hS rfl
    go_wp2_with (fail)
    refine ⟨trivial, ?_⟩
    clear c0
    refine wpAnyH_take (i := 3) (v := .int .i64 (n : Int)) rfl (by kernel_rfl) (by kernel_rfl) (by kernel_rfl) (fun _ _ _ h => h) (.inl ⟨rfl, fun w' hw' => by simp [execOp, go_sem]⟩) hS0 ?_
    simp only [List.getElem_toArray, List.getElem_cons_succ, List.getElem_cons_zero, Act.put, List.setIfInBounds_toArray, List.set_cons_zero, List.set_cons_succ]
    refine wpAnyH_all (rs := [0, 4]) (by kernel_rfl) (by simp) ?_
    intro i hi
    simp only [List.mem_cons, List.not_mem_nil, or_false] at hi
    rcases hi with rfl | rfl
    · refine wpOp_of_wp rfl rfl (fun K' hK' => ?_)
      have c0 := blk_cell (j := 0) hS rfl
      go_wp2_with (fail)
      refine ⟨trivial, ?_⟩
      clear c0
      refine wpAnyH_all (rs := [4]) (by kernel_rfl) (by simp) ?_
      intro i hi
      simp only [List.mem_cons, List.not_mem_nil, or_false] at hi
      subst hi
      refine wpOp_of_wp rfl rfl (fun K' hK' => ?_)
      go_wp2_with (fail)
      refine (hRL _ hRd hAc hCc).mono ?_
      rintro e w1 ⟨hB, ⟨hne, F, rfl, hF, hl⟩ | ⟨h0, rfl, hR⟩⟩
      · exact ⟨rfl, (Kp.below hbd (Nat.le_of_lt hlR)).tr (Kp.but hB hlR), .inl ⟨hne, F, rfl, hF, hl⟩⟩
      have hS1 : w1.heap[P]? = some (.cells #[.slice ad n cap] 23) := hB.blk hS (by omega)
      have HRow1 : Hid (RowV w1 (R + 1) (.slice ad n cap) (out.map cvOf)) := (HRow.out.on hbd).but hB (Nat.lt_succ_self _)
      have HR1 : Hid (Rdr w1 R v (O.2.a + 1)) := hR
      have HK1 : Hid (Kp P R w w1) := (Kp.below hbd (Nat.le_of_lt hlR)).tr (Kp.but hB hlR)
      have hz1 : R < w1.heap.size := by have := hB.size; exact Nat.lt_of_lt_of_le hlR this
      have HO : Hid (O.2.w = ⟨0, 0, 0⟩) := h0
      clear hB hR h0 hRd hAc hCc hbd hRL hS
      have hS := hS1
      clear hS1
      refine hK' _ _ ⟨trivial, ?_⟩
      generalize hQ : cvOf O.1 = Q at *
      have HQ : Hid (cvOf O.1 = Q) := hQ
      clear hQ
      refine wpAnyH_all (rs := [5]) (by kernel_rfl) (by simp) ?_
      intro i hi
      simp only [List.mem_cons, List.not_mem_nil, or_false] at hi
      subst hi
      refine wpOp_of_wp rfl rfl (fun K' hK' => ?_)
      go_wp2_with (fail)
      have hS2 : (w1.alloc (.cells #[.int .i64 Q.k, .int .i64 Q.n, .int .i64 Q.i, .int .i64 Q.r.i, .int .u32 (Q.r.s : Int), .int .i64 Q.r.sl, .int .u32 (Q.r.d : Int), .int .i64 Q.r.dl, .int .u16 (Q.r.p.1 : Int), .int .u16 (Q.r.p.2 : Int), .int .u16 (Q.r.q.1 : Int), .int .u16 (Q.r.q.2 : Int), .int .u8 (Q.r.m.1 : Int), .int .u8 (Q.r.m.2 : Int), .int .i64 Q.r.act, .int .u32 (Q.h.1 : Int), .int .u32 (Q.h.2.1 : Int), .int .u16 (Q.h.2.2.1 : Int), .int .u16 (Q.h.2.2.2.1 : Int), .int .u8 (Q.h.2.2.2.2 : Int)] 61)).heap[P]? = some (.cells #[.slice ad n cap] 23) := blk_alloc hS _
      have hx2 : RowV (w1.alloc (.cells #[.int .i64 Q.k, .int .i64 Q.n, .int .i64 Q.i, .int .i64 Q.r.i, .int .u32 (Q.r.s : Int), .int .i64 Q.r.sl, .int .u32 (Q.r.d : Int), .int .i64 Q.r.dl, .int .u16 (Q.r.p.1 : Int), .int .u16 (Q.r.p.2 : Int), .int .u16 (Q.r.q.1 : Int), .int .u16 (Q.r.q.2 : Int), .int .u8 (Q.r.m.1 : Int), .int .u8 (Q.r.m.2 : Int), .int .i64 Q.r.act, .int .u32 (Q.h.1 : Int), .int .u32 (Q.h.2.1 : Int), .int .u16 (Q.h.2.2.1 : Int), .int .u16 (Q.h.2.2.2.1 : Int), .int .u8 (Q.h.2.2.2.2 : Int)] 61)) (R + 1) (.slice (some ⟨w1.heap.size, 0, none⟩) 1 1) [Q] := RowV.one w1 (R + 1) Q hz1
      have hr2 : RowV (w1.alloc (.cells #[.int .i64 Q.k, .int .i64 Q.n, .int .i64 Q.i, .int .i64 Q.r.i, .int .u32 (Q.r.s : Int), .int .i64 Q.r.sl, .int .u32 (Q.r.d : Int), .int .i64 Q.r.dl, .int .u16 (Q.r.p.1 : Int), .int .u16 (Q.r.p.2 : Int), .int .u16 (Q.r.q.1 : Int), .int .u16 (Q.r.q.2 : Int), .int .u8 (Q.r.m.1 : Int), .int .u8 (Q.r.m.2 : Int), .int .i64 Q.r.act, .int .u32 (Q.h.1 : Int), .int .u32 (Q.h.2.1 : Int), .int .u16 (Q.h.2.2.1 : Int), .int .u16 (Q.h.2.2.2.1 : Int), .int .u8 (Q.h.2.2.2.2 : Int)] 61)) (R + 1) (.slice ad n cap) (out.map cvOf) := HRow1.out.alloc _
      have hR2 : Rdr (w1.alloc (.cells #[.int .i64 Q.k, .int .i64 Q.n, .int .i64 Q.i, .int .i64 Q.r.i, .int .u32 (Q.r.s : Int), .int .i64 Q.r.sl, .int .u32 (Q.r.d : Int), .int .i64 Q.r.dl, .int .u16 (Q.r.p.1 : Int), .int .u16 (Q.r.p.2 : Int), .int .u16 (Q.r.q.1 : Int), .int .u16 (Q.r.q.2 : Int), .int .u8 (Q.r.m.1 : Int), .int .u8 (Q.r.m.2 : Int), .int .i64 Q.r.act, .int .u32 (Q.h.1 : Int), .int .u32 (Q.h.2.1 : Int), .int .u16 (Q.h.2.2.1 : Int), .int .u16 (Q.h.2.2.2.1 : Int), .int .u8 (Q.h.2.2.2.2 : Int)] 61)) R v (O.2.a + 1) := blk_alloc HR1.out _
      have HK2 : Hid (Kp P R w (w1.alloc (.cells #[.int .i64 Q.k, .int .i64 Q.n, .int .i64 Q.i, .int .i64 Q.r.i, .int .u32 (Q.r.s : Int), .int .i64 Q.r.sl, .int .u32 (Q.r.d : Int), .int .i64 Q.r.dl, .int .u16 (Q.r.p.1 : Int), .int .u16 (Q.r.p.2 : Int), .int .u16 (Q.r.q.1 : Int), .int .u16 (Q.r.q.2 : Int), .int .u8 (Q.r.m.1 : Int), .int .u8 (Q.r.m.2 : Int), .int .i64 Q.r.act, .int .u32 (Q.h.1 : Int), .int .u32 (Q.h.2.1 : Int), .int .u16 (Q.h.2.2.1 : Int), .int .u16 (Q.h.2.2.2.1 : Int), .int .u8 (Q.h.2.2.2.2 : Int)] 61))) := HK1.out.tr (Kp.below ((Below.refl _ _).alloc (Nat.le_refl _) _) (Nat.le_of_lt hz1))
      have hz2 : R + 1 ≤ (w1.alloc (.cells #[.int .i64 Q.k, .int .i64 Q.n, .int .i64 Q.i, .int .i64 Q.r.i, .int .u32 (Q.r.s : Int), .int .i64 Q.r.sl, .int .u32 (Q.r.d : Int), .int .i64 Q.r.dl, .int .u16 (Q.r.p.1 : Int), .int .u16 (Q.r.p.2 : Int), .int .u16 (Q.r.q.1 : Int), .int .u16 (Q.r.q.2 : Int), .int .u8 (Q.r.m.1 : Int), .int .u8 (Q.r.m.2 : Int), .int .i64 Q.r.act, .int .u32 (Q.h.1 : Int), .int .u32 (Q.h.2.1 : Int), .int .u16 (Q.h.2.2.1 : Int), .int .u16 (Q.h.2.2.2.1 : Int), .int .u8 (Q.h.2.2.2.2 : Int)] 61)).heap.size := by simp; omega
      generalize hW2 : w1.alloc (.cells #[.int .i64 Q.k, .int .i64 Q.n, .int .i64 Q.i, .int .i64 Q.r.i, .int .u32 (Q.r.s : Int), .int .i64 Q.r.sl, .int .u32 (Q.r.d : Int), .int .i64 Q.r.dl, .int .u16 (Q.r.p.1 : Int), .int .u16 (Q.r.p.2 : Int), .int .u16 (Q.r.q.1 : Int), .int .u16 (Q.r.q.2 : Int), .int .u8 (Q.r.m.1 : Int), .int .u8 (Q.r.m.2 : Int), .int .i64 Q.r.act, .int .u32 (Q.h.1 : Int), .int .u32 (Q.h.2.1 : Int), .int .u16 (Q.h.2.2.1 : Int), .int .u16 (Q.h.2.2.2.1 : Int), .int .u8 (Q.h.2.2.2.2 : Int)] 61) = W2 at *
      clear hS hW2
      have hS := hS2
      refine ⟨trivial, ?_⟩
      refine wpAnyH_all (rs := [6]) (by kernel_rfl) (by simp) ?_
      intro i hi
      simp only [List.mem_cons, List.not_mem_nil, or_false] at hi
      subst hi
      refine wpOp_of_wp rfl rfl (fun K' hK' => ?_)
      refine wp_appendV (.tmp 3) (.tmp 8) rfl (R + 1) (.slice ad n cap) (out.map cvOf) rfl hr2 (R + 1) _ [Q] rfl hx2 hz2 (by rw [List.length_map]; have := HN.out; simp; omega) (fun v3 w3 hr3 hg3 => hK' _ _ ⟨trivial, ?_⟩)
      have hS3 : w3.heap[P]? = some (.cells #[.slice ad n cap] 23) := blk_grown hS2 hg3 (fun e => by have := (hr2.lt P e.symm).1; omega)
      have hR3 : Rdr w3 R v (O.2.a + 1) := blk_grown hR2 hg3 (fun e => by have := (hr2.lt R e.symm).1; omega)
      have HK3 : Hid (Kp P R w w3) := HK2.out.tr (Kp.below (grown_below hg3 (n := R) (by omega) (fun k hk => by have := (hr2.lt k hk).1; omega)) (Nat.le_refl _))
      obtain ⟨ad3, cap3, hv3, _, _⟩ := hr3.form
      refine wpAnyH_all (rs := [7]) (by kernel_rfl) (by simp) ?_
      intro i hi
      simp only [List.mem_cons, List.not_mem_nil, or_false] at hi
      subst hi
      refine wpOp_of_wp rfl rfl (fun K' hK' => ?_)
      refine wp_store_val 23 (.tmp 1) (.tmp 9) rfl P 0 v3 #[v3] #[v3] rfl rfl (by rw [hv3]; rfl) 23 _ hS3 (Nat.le_of_ble_eq_true rfl) rfl (by kernel_rfl) (by rw [hv3]; rfl) (fun w4 h4 ho4 => hK' _ _ ⟨trivial, ?_⟩)
      refine wpAnyH_done (by kernel_rfl) ?_ _
      simp only [List.getElem_toArray, List.getElem_cons_succ, List.getElem_cons_zero, Act.put, List.setIfInBounds_toArray, List.set_cons_zero, List.set_cons_succ]
      have HK4 : Hid (Kp P R w w4) := HK3.out.tr (Kp.onlyP ho4)
      have HR4 : Hid (Rdr w4 R v (O.2.a + 1)) := only_blk ho4 hR3 (by omega)
      have HL4 : Hid (LV w4 P R (out ++ [O.1])) := ⟨v3, h4, by rw [List.map_append, List.map_cons, List.map_nil, HQ.out]; exact hr3.onlyP ho4 (by omega)⟩
      clear h4 ho4 hS3 hR3 hr3 hg3 hS2 hr2 hR2 hx2 hS
      go_wp2_with (fail)
      exact bodyPost_end (v := .tuple #[]) (results_none rfl _ _ _) rfl ⟨HK4.out, .inr ⟨HO.out, rfl, HR4.out, HL4.out⟩⟩
    · refine wpOp_of_wp rfl rfl (fun K' hK' => ?_)
      go_wp2_with (fail)
      refine (hRL _ hRd hAc hCc).mono ?_
      rintro e w1 ⟨hB, ⟨hne, F, rfl, hF, hl⟩ | ⟨h0, rfl, hR⟩⟩
      · exact ⟨rfl, (Kp.below hbd (Nat.le_of_lt hlR)).tr (Kp.but hB hlR), .inl ⟨hne, F, rfl, hF, hl⟩⟩
      have hS1 : w1.heap[P]? = some (.cells #[.slice ad n cap] 23) := hB.blk hS (by omega)
      have HRow1 : Hid (RowV w1 (R + 1) (.slice ad n cap) (out.map cvOf)) := (HRow.out.on hbd).but hB (Nat.lt_succ_self _)
      have HR1 : Hid (Rdr w1 R v (O.2.a + 1)) := hR
      have HK1 : Hid (Kp P R w w1) := (Kp.below hbd (Nat.le_of_lt hlR)).tr (Kp.but hB hlR)
      have hz1 : R < w1.heap.size := by have := hB.size; exact Nat.lt_of_lt_of_le hlR this
      have HO : Hid (O.2.w = ⟨0, 0, 0⟩) := h0
      clear hB hR h0 hRd hAc hCc hbd hRL hS
      have hS := hS1
      clear hS1
      refine hK' _ _ ⟨trivial, ?_⟩
      generalize hQ : cvOf O.1 = Q at *
      have HQ : Hid (cvOf O.1 = Q) := hQ
      clear hQ
      refine wpAnyH_all (rs := [0, 5]) (by kernel_rfl) (by simp) ?_
      intro i hi
      simp only [List.mem_cons, List.not_mem_nil, or_false] at hi
      rcases hi with rfl | rfl
      · refine wpOp_of_wp rfl rfl (fun K' hK' => ?_)
        have c0 := blk_cell (j := 0) hS rfl
        go_wp2_with (fail)
        refine ⟨trivial, ?_⟩
        clear c0
        refine wpAnyH_all (rs := [5]) (by kernel_rfl) (by simp) ?_
        intro i hi
        simp only [List.mem_cons, List.not_mem_nil, or_false] at hi
        subst hi
        refine wpOp_of_wp rfl rfl (fun K' hK' => ?_)
        go_wp2_with (fail)
        have hS2 : (w1.alloc (.cells #[.int .i64 Q.k, .int .i64 Q.n, .int .i64 Q.i, .int .i64 Q.r.i, .int .u32 (Q.r.s : Int), .int .i64 Q.r.sl, .int .u32 (Q.r.d : Int), .int .i64 Q.r.dl, .int .u16 (Q.r.p.1 : Int), .int .u16 (Q.r.p.2 : Int), .int .u16 (Q.r.q.1 : Int), .int .u16 (Q.r.q.2 : Int), .int .u8 (Q.r.m.1 : Int), .int .u8 (Q.r.m.2 : Int), .int .i64 Q.r.act, .int .u32 (Q.h.1 : Int), .int .u32 (Q.h.2.1 : Int), .int .u16 (Q.h.2.2.1 : Int), .int .u16 (Q.h.2.2.2.1 : Int), .int .u8 (Q.h.2.2.2.2 : Int)] 61)).heap[P]? = some (.cells #[.slice ad n cap] 23) := blk_alloc hS _
        have hx2 : RowV (w1.alloc (.cells #[.int .i64 Q.k, .int .i64 Q.n, .int .i64 Q.i, .int .i64 Q.r.i, .int .u32 (Q.r.s : Int), .int .i64 Q.r.sl, .int .u32 (Q.r.d : Int), .int .i64 Q.r.dl, .int .u16 (Q.r.p.1 : Int), .int .u16 (Q.r.p.2 : Int), .int .u16 (Q.r.q.1 : Int), .int .u16 (Q.r.q.2 : Int), .int .u8 (Q.r.m.1 : Int), .int .u8 (Q.r.m.2 : Int), .int .i64 Q.r.act, .int .u32 (Q.h.1 : Int), .int .u32 (Q.h.2.1 : Int), .int .u16 (Q.h.2.2.1 : Int), .int .u16 (Q.h.2.2.2.1 : Int), .int .u8 (Q.h.2.2.2.2 : Int)] 61)) (R + 1) (.slice (some ⟨w1.heap.size, 0, none⟩) 1 1) [Q] := RowV.one w1 (R + 1) Q hz1
        have hr2 : RowV (w1.alloc (.cells #[.int .i64 Q.k, .int .i64 Q.n, .int .i64 Q.i, .int .i64 Q.r.i, .int .u32 (Q.r.s : Int), .int .i64 Q.r.sl, .int .u32 (Q.r.d : Int), .int .i64 Q.r.dl, .int .u16 (Q.r.p.1 : Int), .int .u16 (Q.r.p.2 : Int), .int .u16 (Q.r.q.1 : Int), .int .u16 (Q.r.q.2 : Int), .int .u8 (Q.r.m.1 : Int), .int .u8 (Q.r.m.2 : Int), .int .i64 Q.r.act, .int .u32 (Q.h.1 : Int), .int .u32 (Q.h.2.1 : Int), .int .u16 (Q.h.2.2.1 : Int), .int .u16 (Q.h.2.2.2.1 : Int), .int .u8 (Q.h.2.2.2.2 : Int)] 61)) (R + 1) (.slice ad n cap) (out.map cvOf) := HRow1.out.alloc _
        have hR2 : Rdr (w1.alloc (.cells #[.int .i64 Q.k, .int .i64 Q.n, .int .i64 Q.i, .int .i64 Q.r.i, .int .u32 (Q.r.s : Int), .int .i64 Q.r.sl, .int .u32 (Q.r.d : Int), .int .i64 Q.r.dl, .int .u16 (Q.r.p.1 : Int), .int .u16 (Q.r.p.2 : Int), .int .u16 (Q.r.q.1 : Int), .int .u16 (Q.r.q.2 : Int), .int .u8 (Q.r.m.1 : Int), .int .u8 (Q.r.m.2 : Int), .int .i64 Q.r.act, .int .u32 (Q.h.1 : Int), .int .u32 (Q.h.2.1 : Int), .int .u16 (Q.h.2.2.1 : Int), .int .u16 (Q.h.2.2.2.1 : Int), .int .u8 (Q.h.2.2.2.2 : Int)] 61)) R v (O.2.a + 1) := blk_alloc HR1.out _
        have HK2 : Hid (Kp P R w (w1.alloc (.cells #[.int .i64 Q.k, .int .i64 Q.n, .int .i64 Q.i, .int .i64 Q.r.i, .int .u32 (Q.r.s : Int), .int .i64 Q.r.sl, .int .u32 (Q.r.d : Int), .int .i64 Q.r.dl, .int .u16 (Q.r.p.1 : Int), .int .u16 (Q.r.p.2 : Int), .int .u16 (Q.r.q.1 : Int), .int .u16 (Q.r.q.2 : Int), .int .u8 (Q.r.m.1 : Int), .int .u8 (Q.r.m.2 : Int), .int .i64 Q.r.act, .int .u32 (Q.h.1 : Int), .int .u32 (Q.h.2.1 : Int), .int .u16 (Q.h.2.2.1 : Int), .int .u16 (Q.h.2.2.2.1 : Int), .int .u8 (Q.h.2.2.2.2 : Int)] 61))) := HK1.out.tr (Kp.below ((Below.refl _ _).alloc (Nat.le_refl _) _) (Nat.le_of_lt hz1))
        have hz2 : R + 1 ≤ (w1.alloc (.cells #[.int .i64 Q.k, .int .i64 Q.n, .int .i64 Q.i, .int .i64 Q.r.i, .int .u32 (Q.r.s : Int), .int .i64 Q.r.sl, .int .u32 (Q.r.d : Int), .int .i64 Q.r.dl, .int .u16 (Q.r.p.1 : Int), .int .u16 (Q.r.p.2 : Int), .int .u16 (Q.r.q.1 : Int), .int .u16 (Q.r.q.2 : Int), .int .u8 (Q.r.m.1 : Int), .int .u8 (Q.r.m.2 : Int), .int .i64 Q.r.act, .int .u32 (Q.h.1 : Int), .int .u32 (Q.h.2.1 : Int), .int .u16 (Q.h.2.2.1 : Int), .int .u16 (Q.h.2.2.2.1 : Int), .int .u8 (Q.h.2.2.2.2 : Int)] 61)).heap.size := by simp; omega
        generalize hW2 : w1.alloc (.cells #[.int .i64 Q.k, .int .i64 Q.n, .int .i64 Q.i, .int .i64 Q.r.i, .int .u32 (Q.r.s : Int), .int .i64 Q.r.sl, .int .u32 (Q.r.d : Int), .int .i64 Q.r.dl, .int .u16 (Q.r.p.1 : Int), .int .u16 (Q.r.p.2 : Int), .int .u16 (Q.r.q.1 : Int), .int .u16 (Q.r.q.2 : Int), .int .u8 (Q.r.m.1 : Int), .int .u8 (Q.r.m.2 : Int), .int .i64 Q.r.act, .int .u32 (Q.h.1 : Int), .int .u32 (Q.h.2.1 : Int), .int .u16 (Q.h.2.2.1 : Int), .int .u16 (Q.h.2.2.2.1 : Int), .int .u8 (Q.h.2.2.2.2 : Int)] 61) = W2 at *
        clear hS hW2
        have hS := hS2
        refine ⟨trivial, ?_⟩
        refine wpAnyH_all (rs := [6]) (by kernel_rfl) (by simp) ?_
        intro i hi
        simp only [List.mem_cons, List.not_mem_nil, or_false] at hi
        subst hi
        refine wpOp_of_wp rfl rfl (fun K' hK' => ?_)
        refine wp_appendV (.tmp 3) (.tmp 8) rfl (R + 1) (.slice ad n cap) (out.map cvOf) rfl hr2 (R + 1) _ [Q] rfl hx2 hz2 (by rw [List.length_map]; have := HN.out; simp; omega) (fun v3 w3 hr3 hg3 => hK' _ _ ⟨trivial, ?_⟩)
        have hS3 : w3.heap[P]? = some (.cells #[.slice ad n cap] 23) := blk_grown hS2 hg3 (fun e => by have := (hr2.lt P e.symm).1; omega)
        have hR3 : Rdr w3 R v (O.2.a + 1) := blk_grown hR2 hg3 (fun e => by have := (hr2.lt R e.symm).1; omega)
        have HK3 : Hid (Kp P R w w3) := HK2.out.tr (Kp.below (grown_below hg3 (n := R) (by omega) (fun k hk => by have := (hr2.lt k hk).1; omega)) (Nat.le_refl _))
        obtain ⟨ad3, cap3, hv3, _, _⟩ := hr3.form
        refine wpAnyH_all (rs := [7]) (by kernel_rfl) (by simp) ?_
        intro i hi
        simp only [List.mem_cons, List.not_mem_nil, or_false] at hi
        subst hi
        refine wpOp_of_wp rfl rfl (fun K' hK' => ?_)
        refine wp_store_val 23 (.tmp 1) (.tmp 9) rfl P 0 v3 #[v3] #[v3] rfl rfl (by rw [hv3]; rfl) 23 _ hS3 (Nat.le_of_ble_eq_true rfl) rfl (by kernel_rfl) (by rw [hv3]; rfl) (fun w4 h4 ho4 => hK' _ _ ⟨trivial, ?_⟩)
        refine wpAnyH_done (by kernel_rfl) ?_ _
        simp only [List.getElem_toArray, List.getElem_cons_succ, List.getElem_cons_zero, Act.put, List.setIfInBounds_toArray, List.set_cons_zero, List.set_cons_succ]
        have HK4 : Hid (Kp P R w w4) := HK3.out.tr (Kp.onlyP ho4)
        have HR4 : Hid (Rdr w4 R v (O.2.a + 1)) := only_blk ho4 hR3 (by omega)
        have HL4 : Hid (LV w4 P R (out ++ [O.1])) := ⟨v3, h4, by rw [List.map_append, List.map_cons, List.map_nil, HQ.out]; exact hr3.onlyP ho4 (by omega)⟩
        clear h4 ho4 hS3 hR3 hr3 hg3 hS2 hr2 hR2 hx2 hS
        go_wp2_with (fail)
        exact bodyPost_end (v := .tuple #[]) (results_none rfl _ _ _) rfl ⟨HK4.out, .inr ⟨HO.out, rfl, HR4.out, HL4.out⟩⟩
      · refine wpOp_of_wp rfl rfl (fun K' hK' => ?_)
        go_wp2_with (fail)
        have hS2 : (w1.alloc (.cells #[.int .i64 Q.k, .int .i64 Q.n, .int .i64 Q.i, .int .i64 Q.r.i, .int .u32 (Q.r.s : Int), .int .i64 Q.r.sl, .int .u32 (Q.r.d : Int), .int .i64 Q.r.dl, .int .u16 (Q.r.p.1 : Int), .int .u16 (Q.r.p.2 : Int), .int .u16 (Q.r.q.1 : Int), .int .u16 (Q.r.q.2 : Int), .int .u8 (Q.r.m.1 : Int), .int .u8 (Q.r.m.2 : Int), .int .i64 Q.r.act, .int .u32 (Q.h.1 : Int), .int .u32 (Q.h.2.1 : Int), .int .u16 (Q.h.2.2.1 : Int), .int .u16 (Q.h.2.2.2.1 : Int), .int .u8 (Q.h.2.2.2.2 : Int)] 61)).heap[P]? = some (.cells #[.slice ad n cap] 23) := blk_alloc hS _
        have hx2 : RowV (w1.alloc (.cells #[.int .i64 Q.k, .int .i64 Q.n, .int .i64 Q.i, .int .i64 Q.r.i, .int .u32 (Q.r.s : Int), .int .i64 Q.r.sl, .int .u32 (Q.r.d : Int), .int .i64 Q.r.dl, .int .u16 (Q.r.p.1 : Int), .int .u16 (Q.r.p.2 : Int), .int .u16 (Q.r.q.1 : Int), .int .u16 (Q.r.q.2 : Int), .int .u8 (Q.r.m.1 : Int), .int .u8 (Q.r.m.2 : Int), .int .i64 Q.r.act, .int .u32 (Q.h.1 : Int), .int .u32 (Q.h.2.1 : Int), .int .u16 (Q.h.2.2.1 : Int), .int .u16 (Q.h.2.2.2.1 : Int), .int .u8 (Q.h.2.2.2.2 : Int)] 61)) (R + 1) (.slice (some ⟨w1.heap.size, 0, none⟩) 1 1) [Q] := RowV.one w1 (R + 1) Q hz1
        have hr2 : RowV (w1.alloc (.cells #[.int .i64 Q.k, .int .i64 Q.n, .int .i64 Q.i, .int .i64 Q.r.i, .int .u32 (Q.r.s : Int), .int .i64 Q.r.sl, .int .u32 (Q.r.d : Int), .int .i64 Q.r.dl, .int .u16 (Q.r.p.1 : Int), .int .u16 (Q.r.p.2 : Int), .int .u16 (Q.r.q.1 : Int), .int .u16 (Q.r.q.2 : Int), .int .u8 (Q.r.m.1 : Int), .int .u8 (Q.r.m.2 : Int), .int .i64 Q.r.act, .int .u32 (Q.h.1 : Int), .int .u32 (Q.h.2.1 : Int), .int .u16 (Q.h.2.2.1 : Int), .int .u16 (Q.h.2.2.2.1 : Int), .int .u8 (Q.h.2.2.2.2 : Int)] 61)) (R + 1) (.slice ad n cap) (out.map cvOf) := HRow1.out.alloc _
        have hR2 : Rdr (w1.alloc (.cells #[.int .i64 Q.k, .int .i64 Q.n, .int .i64 Q.i, .int .i64 Q.r.i, .int .u32 (Q.r.s : Int), .int .i64 Q.r.sl, .int .u32 (Q.r.d : Int), .int .i64 Q.r.dl, .int .u16 (Q.r.p.1 : Int), .int .u16 (Q.r.p.2 : Int), .int .u16 (Q.r.q.1 : Int), .int .u16 (Q.r.q.2 : Int), .int .u8 (Q.r.m.1 : Int), .int .u8 (Q.r.m.2 : Int), .int .i64 Q.r.act, .int .u32 (Q.h.1 : Int), .int .u32 (Q.h.2.1 : Int), .int .u16 (Q.h.2.2.1 : Int), .int .u16 (Q.h.2.2.2.1 : Int), .int .u8 (Q.h.2.2.2.2 : Int)] 61)) R v (O.2.a + 1) := blk_alloc HR1.out _
        have HK2 : Hid (Kp P R w (w1.alloc (.cells #[.int .i64 Q.k, .int .i64 Q.n, .int .i64 Q.i, .int .i64 Q.r.i, .int .u32 (Q.r.s : Int), .int .i64 Q.r.sl, .int .u32 (Q.r.d : Int), .int .i64 Q.r.dl, .int .u16 (Q.r.p.1 : Int), .int .u16 (Q.r.p.2 : Int), .int .u16 (Q.r.q.1 : Int), .int .u16 (Q.r.q.2 : Int), .int .u8 (Q.r.m.1 : Int), .int .u8 (Q.r.m.2 : Int), .int .i64 Q.r.act, .int .u32 (Q.h.1 : Int), .int .u32 (Q.h.2.1 : Int), .int .u16 (Q.h.2.2.1 : Int), .int .u16 (Q.h.2.2.2.1 : Int), .int .u8 (Q.h.2.2.2.2 : Int)] 61))) := HK1.out.tr (Kp.below ((Below.refl _ _).alloc (Nat.le_refl _) _) (Nat.le_of_lt hz1))
        have hz2 : R + 1 ≤ (w1.alloc (.cells #[.int .i64 Q.k, .int .i64 Q.n, .int .i64 Q.i, .int .i64 Q.r.i, .int .u32 (Q.r.s : Int), .int .i64 Q.r.sl, .int .u32 (Q.r.d : Int), .int .i64 Q.r.dl, .int .u16 (Q.r.p.1 : Int), .int .u16 (Q.r.p.2 : Int), .int .u16 (Q.r.q.1 : Int), .int .u16 (Q.r.q.2 : Int), .int .u8 (Q.r.m.1 : Int), .int .u8 (Q.r.m.2 : Int), .int .i64 Q.r.act, .int .u32 (Q.h.1 : Int), .int .u32 (Q.h.2.1 : Int), .int .u16 (Q.h.2.2.1 : Int), .int .u16 (Q.h.2.2.2.1 : Int), .int .u8 (Q.h.2.2.2.2 : Int)] 61)).heap.size := by simp; omega
        generalize hW2 : w1.alloc (.cells #[.int .i64 Q.k, .int .i64 Q.n, .int .i64 Q.i, .int .i64 Q.r.i, .int .u32 (Q.r.s : Int), .int .i64 Q.r.sl, .int .u32 (Q.r.d : Int), .int .i64 Q.r.dl, .int .u16 (Q.r.p.1 : Int), .int .u16 (Q.r.p.2 : Int), .int .u16 (Q.r.q.1 : Int), .int .u16 (Q.r.q.2 : Int), .int .u8 (Q.r.m.1 : Int), .int .u8 (Q.r.m.2 : Int), .int .i64 Q.r.act, .int .u32 (Q.h.1 : Int), .int .u32 (Q.h.2.1 : Int), .int .u16 (Q.h.2.2.1 : Int), .int .u16 (Q.h.2.2.2.1 : Int), .int .u8 (Q.h.2.2.2.2 : Int)] 61) = W2 at *
        clear hS hW2
        have hS := hS2
        refine ⟨trivial, ?_⟩
        refine wpAnyH_all (rs := [0]) (by kernel_rfl) (by simp) ?_
        intro i hi
        simp only [List.mem_cons, List.not_mem_nil, or_false] at hi
        subst hi
        refine wpOp_of_wp rfl rfl (fun K' hK' => ?_)
        have c0 := blk_cell (j := 0) hS rfl
        go_wp2_with (fail)
        refine ⟨trivial, ?_⟩
        clear c0
        refine wpAnyH_all (rs := [6]) (by kernel_rfl) (by simp) ?_
        intro i hi
        simp only [List.mem_cons, List.not_mem_nil, or_false] at hi
        subst hi
        refine wpOp_of_wp rfl rfl (fun K' hK' => ?_)
        refine wp_appendV (.tmp 3) (.tmp 8) rfl (R + 1) (.slice ad n cap) (out.map cvOf) rfl hr2 (R + 1) _ [Q] rfl hx2 hz2 (by rw [List.length_map]; have := HN.out; simp; omega) (fun v3 w3 hr3 hg3 => hK' _ _ ⟨trivial, ?_⟩)
        have hS3 : w3.heap[P]? = some (.cells #[.slice ad n cap] 23) := blk_grown hS2 hg3 (fun e => by have := (hr2.lt P e.symm).1; omega)
        have hR3 : Rdr w3 R v (O.2.a + 1) := blk_grown hR2 hg3 (fun e => by have := (hr2.lt R e.symm).1; omega)
        have HK3 : Hid (Kp P R w w3) := HK2.out.tr (Kp.below (grown_below hg3 (n := R) (by omega) (fun k hk => by have := (hr2.lt k hk).1; omega)) (Nat.le_refl _))
        obtain ⟨ad3, cap3, hv3, _, _⟩ := hr3.form
        refine wpAnyH_all (rs := [7]) (by kernel_rfl) (by simp) ?_
        intro i hi
        simp only [List.mem_cons, List.not_mem_nil, or_false] at hi
        subst hi
        refine wpOp_of_wp rfl rfl (fun K' hK' => ?_)
        refine wp_store_val 23 (.tmp 1) (.tmp 9) rfl P 0 v3 #[v3] #[v3] rfl rfl (by rw [hv3]; rfl) 23 _ hS3 (Nat.le_of_ble_eq_true rfl) rfl (by kernel_rfl) (by rw [hv3]; rfl) (fun w4 h4 ho4 => hK' _ _ ⟨trivial, ?_⟩)
        refine wpAnyH_done (by kernel_rfl) ?_ _
        simp only [List.getElem_toArray, List.getElem_cons_succ, List.getElem_cons_zero, Act.put, List.setIfInBounds_toArray, List.set_cons_zero, List.set_cons_succ]
        have HK4 : Hid (Kp P R w w4) := HK3.out.tr (Kp.onlyP ho4)
        have HR4 : Hid (Rdr w4 R v (O.2.a + 1)) := only_blk ho4 hR3 (by omega)
        have HL4 : Hid (LV w4 P R (out ++ [O.1])) := ⟨v3, h4, by rw [List.map_append, List.map_cons, List.map_nil, HQ.out]; exact hr3.onlyP ho4 (by omega)⟩
        clear h4 ho4 hS3 hR3 hr3 hg3 hS2 hr2 hR2 hx2 hS
        go_wp2_with (fail)
        exact bodyPost_end (v := .tuple #[]) (results_none rfl _ _ _) rfl ⟨HK4.out, .inr ⟨HO.out, rfl, HR4.out, HL4.out⟩⟩

end Go.Proofs.YtehedlgdencboabGreatDoor
/-
  Reading goes forth: the place never falls. No program is named here.
-/
namespace Go.Proofs.YtehedlgdencboabGreatDoor
set_option linter.unusedVariables false
set_option linter.unusedSimpArgs false

theorem sign_ge (L : List Tk) (c : Nat) (st : Rd) : st.a ≤ (signS L c st).2.a := by
  unfold signS
  split
  · exact Nat.le_succ _
  · exact Nat.le_refl _
theorem num_ge (L : List Tk) (m : Nat) (st : Rd) : st.a ≤ (numS L m st).2.a := by
  unfold numS
  split
  · rw [wrong_a]; exact Nat.le_refl _
  · split
    · rw [wrong_a]; exact Nat.le_refl _
    · exact Nat.le_succ _
theorem word_ge (L : List Tk) (st : Rd) : st.a ≤ (wordS L st).2.a := by
  unfold wordS
  split
  · exact Nat.le_refl _
  · exact Nat.le_succ _
theorem dots_ge (L : List Tk) : ∀ (n x : Nat) (st : Rd), st.a ≤ (dotsS L n x st).2.a
  | 0, x, st => Nat.le_refl _
  | n + 1, x, st => by
    rw [dots_is]
    split
    · exact Nat.le_trans (Nat.le_trans (sign_ge L 46 st) (num_ge L 255 _)) (dots_ge L n _ _)
    · rw [wrong_a]; exact sign_ge L 46 st
theorem addr_ge (L : List Tk) (st : Rd) : st.a ≤ (addrS L st).2.a := Nat.le_trans (num_ge L 255 st) (dots_ge L 3 _ _)
theorem pair_ge (L : List Tk) (c m : Nat) (one : Nat → Nat) (x : Nat) (st : Rd) : st.a ≤ (pairS L c m one x st).2.a := by
  unfold pairS
  split
  · exact Nat.le_trans (sign_ge L c st) (num_ge L m _)
  · exact sign_ge L c st
theorem pref_ge (L : List Tk) (st : Rd) : st.a ≤ (prefS L st).2.a := by
  unfold prefS
  split
  · exact sign_ge L 42 st
  · exact Nat.le_trans (Nat.le_trans (sign_ge L 42 st) (addr_ge L _)) (pair_ge L 47 32 _ _ _)
theorem span_ge (L : List Tk) (st : Rd) : st.a ≤ (spanS L st).2.a := by
  unfold spanS
  split
  · exact sign_ge L 42 st
  · exact Nat.le_trans (Nat.le_trans (sign_ge L 42 st) (num_ge L 65535 _)) (pair_ge L 58 65535 _ _ _)
theorem mask_ge (L : List Tk) (st : Rd) : st.a ≤ (maskS L st).2.a := by
  unfold maskS
  split
  · exact sign_ge L 42 st
  · exact Nat.le_trans (Nat.le_trans (sign_ge L 42 st) (num_ge L 255 _)) (pair_ge L 47 255 _ _ _)
theorem rule_ge (L : List Tk) (st : Rd) : st.a ≤ (ruleS L st).2.2.a := by
  have h1 := num_ge L 4294967295 st
  have h2 := word_ge L (numS L 4294967295 st).2
  have h3 : (numS L 4294967295 st).2.a ≤ (if actOf (wordS L (numS L 4294967295 st).2).1 = 0 then wrongS L 100 (numS L 4294967295 st).2.a (wordS L (numS L 4294967295 st).2).2 else (wordS L (numS L 4294967295 st).2).2).a := by
    split
    · rw [wrong_a]; exact h2
    · exact h2
  unfold ruleS
  simp only
  generalize (if actOf (wordS L (numS L 4294967295 st).2).1 = 0 then wrongS L 100 (numS L 4294967295 st).2.a (wordS L (numS L 4294967295 st).2).2 else (wordS L (numS L 4294967295 st).2).2) = A at *
  exact Nat.le_trans h1 (Nat.le_trans h3 (Nat.le_trans (pref_ge L A) (Nat.le_trans (pref_ge L _) (Nat.le_trans (span_ge L _) (Nat.le_trans (span_ge L _) (mask_ge L _))))))
theorem head_ge (L : List Tk) (st : Rd) : st.a ≤ (headS L st).2.a := by
  unfold headS
  simp only
  exact Nat.le_trans (addr_ge L st) (Nat.le_trans (addr_ge L _) (Nat.le_trans (num_ge L _ _) (Nat.le_trans (num_ge L _ _) (num_ge L _ _))))
theorem cmd_ge (L : List Tk) (st : Rd) : st.a ≤ (cmdS L st).2.2.a := by
  have h1 := word_ge L st
  have h2 := Nat.le_trans h1 (num_ge L 4294967295 (wordS L st).2)
  have h3 := Nat.le_trans h2 (rule_ge L (numS L 4294967295 (wordS L st).2).2)
  have h4 := Nat.le_trans h2 (num_ge L 4294967295 (numS L 4294967295 (wordS L st).2).2)
  have h5 := Nat.le_trans h1 (head_ge L (wordS L st).2)
  unfold cmdS
  dsimp only
  generalize ruleS L (numS L 4294967295 (wordS L st).2).2 = r at *
  generalize headS L (wordS L st).2 = hh at *
  generalize numS L 4294967295 (numS L 4294967295 (wordS L st).2).2 = n2 at *
  generalize numS L 4294967295 (wordS L st).2 = n at *
  generalize wordS L st = w at *
  split
  · dsimp only; rw [wrong_a]; exact h1
  · split
    · exact h3
    · split
      · exact h2
      · split
        · exact h4
        · split
          · exact h5
          · exact h1
theorem end_a (L : List Tk) (st : Rd) : (endS L st).a = st.a := by unfold endS; split; exact wrong_a ..; rfl
theorem many_a (L : List Tk) (m n f : Nat) (st : Rd) : (manyS L m n f st).a = st.a := by unfold manyS; split; exact wrong_a ..; rfl
theorem fld_a (L : List Tk) (e : Nat × Nat) (at_ : List Nat) (st : Rd) : (fldS L e at_ st).a = st.a := by unfold fldS; split; exact wrong_a ..; rfl
theorem twice_a (L : List Tk) (b : Bool) (f : Nat) (st : Rd) : (twiceS L b f st).a = st.a := by unfold twiceS; split; exact wrong_a ..; rfl
theorem one_ge (chk : Rp → Nat × Nat) (L : List Tk) (out : List Rp) (a : Nat) : a ≤ (oneS chk L out a).2.a := by
  unfold oneS
  simp only
  rw [twice_a, fld_a, many_a, end_a]
  exact rule_ge L ⟨a, ⟨0, 0, 0⟩⟩
theorem one_geC (chk : Rp → Nat × Nat) (L : List Tk) (n a : Nat) : a ≤ (oneC chk L n a).2.a := by
  unfold oneC
  simp only
  split
  · rw [fld_a, many_a, end_a]; exact cmd_ge L ⟨a, ⟨0, 0, 0⟩⟩
  · rw [many_a, end_a]; exact cmd_ge L ⟨a, ⟨0, 0, 0⟩⟩
theorem one_lt (chk : Rp → Nat × Nat) {L : List Tk} (g : GoodL L) (out : List Rp) {a : Nat} (h : a < L.length) : (oneS chk L out a).2.a + 1 ≤ L.length := by
  have := (one_ag (chk := chk) (out := out) (g.ag (by omega)) (show a ≤ L.length - 1 by omega)).2
  omega
theorem one_ltC (chk : Rp → Nat × Nat) {L : List Tk} (g : GoodL L) (n : Nat) {a : Nat} (h : a < L.length) : (oneC chk L n a).2.a + 1 ≤ L.length := by
  have := (one_agC (chk := chk) (n := n) (g.ag (by omega)) (show a ≤ L.length - 1 by omega)).2
  omega
/-- How the reading of a text stands: the list so far, the place, steps enough for the rest. -/
def RuI (L : List Tk) (T : List Rp × Wr) (out : List Rp) (a : Nat) (chk : Rp → Nat × Nat) : Prop := ∃ m, rulesF chk L m out a = T ∧ L.length - a < m
def ScI2 (L : List Tk) (T : List Cm × Wr) (out : List Cm) (a : Nat) (chk : Rp → Nat × Nat) : Prop := ∃ m, scrF chk L m out a = T ∧ L.length - a < m
theorem RuI.blank {L : List Tk} {T : List Rp × Wr} {out : List Rp} {a : Nat} {chk : Rp → Nat × Nat} (h : RuI L T out a chk) (ha : a < L.length) (hk : (tkA L a).k = 4) : RuI L T out (a + 1) chk := by
  obtain ⟨m, e, hm⟩ := h
  match m, hm with
  | m + 1, hm =>
    rw [rulesF_is, if_pos ha, if_pos hk] at e
    exact ⟨m, e, by omega⟩
theorem RuI.bad {L : List Tk} {T : List Rp × Wr} {out : List Rp} {a : Nat} {chk : Rp → Nat × Nat} (h : RuI L T out a chk) (ha : a < L.length) (hk : (tkA L a).k ≠ 4) (hne : (oneS chk L out a).2.w.e ≠ 0) : T = ([], (oneS chk L out a).2.w) := by
  obtain ⟨m, e, hm⟩ := h
  match m, hm with
  | m + 1, hm =>
    rw [rulesF_is, if_pos ha, if_neg hk, if_pos hne] at e
    exact e.symm
theorem RuI.one {L : List Tk} {T : List Rp × Wr} {out : List Rp} {a : Nat} {chk : Rp → Nat × Nat} (h : RuI L T out a chk) (ha : a < L.length) (hk : (tkA L a).k ≠ 4) (h0 : (oneS chk L out a).2.w = ⟨0, 0, 0⟩) : RuI L T (out ++ [(oneS chk L out a).1]) ((oneS chk L out a).2.a + 1) chk := by
  obtain ⟨m, e, hm⟩ := h
  match m, hm with
  | m + 1, hm =>
    rw [rulesF_is, if_pos ha, if_neg hk, if_neg (by rw [h0]; simp)] at e
    exact ⟨m, e, by have := one_ge chk L out a; omega⟩
theorem RuI.fin {L : List Tk} {T : List Rp × Wr} {out : List Rp} {a : Nat} {chk : Rp → Nat × Nat} (h : RuI L T out a chk) (ha : ¬ a < L.length) : T = (out, ⟨0, 0, 0⟩) := by
  obtain ⟨m, e, hm⟩ := h
  match m, hm with
  | m + 1, hm =>
    rw [rulesF_is, if_neg ha] at e
    exact e.symm
theorem ScI2.blank {L : List Tk} {T : List Cm × Wr} {out : List Cm} {a : Nat} {chk : Rp → Nat × Nat} (h : ScI2 L T out a chk) (ha : a < L.length) (hk : (tkA L a).k = 4) : ScI2 L T out (a + 1) chk := by
  obtain ⟨m, e, hm⟩ := h
  match m, hm with
  | m + 1, hm =>
    rw [scrF_is, if_pos ha, if_pos hk] at e
    exact ⟨m, e, by omega⟩
theorem ScI2.bad {L : List Tk} {T : List Cm × Wr} {out : List Cm} {a : Nat} {chk : Rp → Nat × Nat} (h : ScI2 L T out a chk) (ha : a < L.length) (hk : (tkA L a).k ≠ 4) (hne : (oneC chk L out.length a).2.w.e ≠ 0) : T = ([], (oneC chk L out.length a).2.w) := by
  obtain ⟨m, e, hm⟩ := h
  match m, hm with
  | m + 1, hm =>
    rw [scrF_is, if_pos ha, if_neg hk, if_pos hne] at e
    exact e.symm
theorem ScI2.one {L : List Tk} {T : List Cm × Wr} {out : List Cm} {a : Nat} {chk : Rp → Nat × Nat} (h : ScI2 L T out a chk) (ha : a < L.length) (hk : (tkA L a).k ≠ 4) (h0 : (oneC chk L out.length a).2.w = ⟨0, 0, 0⟩) : ScI2 L T (out ++ [(oneC chk L out.length a).1]) ((oneC chk L out.length a).2.a + 1) chk := by
  obtain ⟨m, e, hm⟩ := h
  match m, hm with
  | m + 1, hm =>
    rw [scrF_is, if_pos ha, if_neg hk, if_neg (by rw [h0]; simp)] at e
    exact ⟨m, e, by have := one_geC chk L out.length a; omega⟩
theorem ScI2.fin {L : List Tk} {T : List Cm × Wr} {out : List Cm} {a : Nat} {chk : Rp → Nat × Nat} (h : ScI2 L T out a chk) (ha : ¬ a < L.length) : T = (out, ⟨0, 0, 0⟩) := by
  obtain ⟨m, e, hm⟩ := h
  match m, hm with
  | m + 1, hm =>
    rw [scrF_is, if_neg ha] at e
    exact e.symm
end Go.Proofs.YtehedlgdencboabGreatDoor
/-
  The reading of a text, line by line, up to the first thing that is wrong (defer, recover); Rules and Script. Written by tools/mkSyN.py.
-/
namespace Go.Proofs.YtehedlgdencboabGreatDoor
open Go.RowKit
set_option linter.unusedVariables false
set_option linter.unusedSimpArgs false
variable {zA zC : TypeId × (Nat × Nat)}

/-- The deferred function, where the reading has given up: the error is laid. -/
theorem catchBad (E F : Nat) (x : Value) (older : List PanicEntry) (w : World) (hc : w.cell? ⟨E, 0, none⟩ = some x) (hz : w.frozen? ⟨E, 0, none⟩ = false) :
    CallsD Tryz.prog 30 #[.pointer (some ⟨E, 0, none⟩)] (.panicking ({ v := .iface 72 (.pointer (some ⟨F, 0, none⟩)), recovered := false } :: older)) w fun e u' w' =>
      e = .returned (.tuple #[]) ∧ u' = .panicking ({ v := .iface 72 (.pointer (some ⟨F, 0, none⟩)), recovered := true } :: older) ∧ w' = w.setCell ⟨E, 0, none⟩ (.iface 72 (.pointer (some ⟨F, 0, none⟩))) := by
  have hT : ∀ w : World, (Instr.typeAssert (.iface 72 (.pointer (some ⟨F, 0, none⟩))) 20 72 false).run Tryz.prog w = .ok (.pointer (some ⟨F, 0, none⟩)) w := fun w => by kernel_rfl
  have hN : ∀ w : World, Sem.run Tryz.prog (binOp .neq 20 (.iface 72 (.pointer (some ⟨F, 0, none⟩))) .nilIface) w = .ok (.bool true) w := fun w => by kernel_rfl
  refine callsD_of_wpS Tryz.func30 rfl fun c₀ cs hu => ?_
  apply wpS_seq
  apply wpS_region
  simp [wpOpsS, go_sem, recoverD, hu, Tryz.ntmps30, Exit.thenS]
  apply wpS_seq
  apply wpS_region
  simp [wpOpsS, go_sem, Exit.thenS, hN]
  refine wpS_cond (t := true) (by simp [Act.eval]) ?_
  simp only [if_true]
  apply wpS_region
  simp [wpOpsS, go_sem, hc, hz, hT, bodyPostS, results, Tryz.results30]
/-- .. where all went well: it turns nothing. -/
theorem catchIdle (p : Addr) (w : World) :
    CallsD Tryz.prog 30 #[.pointer (some p)] .returning w fun e u' w' => e = .returned (.tuple #[]) ∧ u' = .returning ∧ w' = w := by
  have hN : ∀ w : World, Sem.run Tryz.prog (binOp .neq 20 .nilIface .nilIface) w = .ok (.bool false) w := fun w => by kernel_rfl
  refine callsD_of_wpS Tryz.func30 rfl fun c₀ cs hu => ?_
  apply wpS_seq
  apply wpS_region
  simp [wpOpsS, go_sem, recoverD, hu, Tryz.ntmps30, Exit.thenS]
  apply wpS_seq
  apply wpS_region
  simp [wpOpsS, go_sem, Exit.thenS, hN]
  refine wpS_cond (t := false) (by simp [Act.eval]) ?_
  simp only [Bool.false_eq_true, if_false]
  refine wpS_of_wp (wp_skip ?_)
  cases c₀
  simp_all [bodyPostS, results, Tryz.results30]
theorem results_err {tmps : Array Value} {w : World} {B : Nat} {v : Value} (hp : tmps.getD 4 undef = .pointer (some ⟨B, 0, none⟩)) (hc : w.cell? ⟨B, 0, none⟩ = some v) : (results Tryz.f17 tmps).run Tryz.prog w = .ok v w := by
  have hp2 : tmps[4]?.getD undef = .pointer (some ⟨B, 0, none⟩) := by simpa using hp
  simp [results, Tryz.results17, hp2, asAddr, go_sem, hc]
/-- The reader's place, read off memory. -/
def rdAt (R : Nat) (w : World) : Nat := match w.cell? ⟨R, 1, none⟩ with
  | some (.int _ i) => i.toNat
  | _ => 0
theorem rdAt_is {w : World} {R a : Nat} {v : Value} (h : Rdr w R v a) : rdAt R w = a := by
  unfold rdAt
  rw [(blk2 h).2]
  simp
theorem makeF (fn : Fn) (first cap : Array Value) (w : World) : (Instr.makeFunc fn first cap).run Tryz.prog w = .ok (.func fn first cap) w := rfl
/-- Where the reading gave up: what the caller sees. -/
theorem leave_bad {tmps : Array Value} {w : World} {E F : Nat} {x : Value} {Φ : Ending → World → Prop} (hp : tmps.getD 4 undef = .pointer (some ⟨E, 0, none⟩)) (hE : w.heap[E]? = some (.cells #[x] 25))
    (h : Φ (.returned (.iface 72 (.pointer (some ⟨F, 0, none⟩)))) (w.setCell ⟨E, 0, none⟩ (.iface 72 (.pointer (some ⟨F, 0, none⟩))))) :
    Leaves Tryz.prog Tryz.f17 tmps Φ [{ target := .fn (.func 30) #[.pointer (some ⟨E, 0, none⟩)], args := #[] }] (.panicking [{ v := .iface 72 (.pointer (some ⟨F, 0, none⟩)), recovered := false }]) w := by
  refine leaves_cons (f := 30) (args := #[.pointer (some ⟨E, 0, none⟩)]) (by simp) (by simp [go_sem]) ?_
  refine (catchBad E F x [] w (blk_cell hE rfl) (blk_free hE 0)).mono ?_
  rintro e u' w'' ⟨rfl, rfl, rfl⟩
  exact ⟨_, results_err hp (blk_cell (blk_set (j := 0) hE _) rfl), h⟩
theorem leave_ok {tmps : Array Value} {w : World} {E : Nat} {Φ : Ending → World → Prop} (hp : tmps.getD 4 undef = .pointer (some ⟨E, 0, none⟩)) (hE : w.heap[E]? = some (.cells #[.nilIface] 25)) (h : Φ (.returned .nilIface) w) :
    Leaves Tryz.prog Tryz.f17 tmps Φ [{ target := .fn (.func 30) #[.pointer (some ⟨E, 0, none⟩)], args := #[] }] .returning w := by
  refine leaves_cons (f := 30) (args := #[.pointer (some ⟨E, 0, none⟩)]) (by simp) (by simp [go_sem]) ?_
  refine (catchIdle ⟨E, 0, none⟩ w).mono ?_
  rintro e u' w'' ⟨rfl, rfl, rfl⟩
  exact ⟨_, results_err hp (blk_cell hE rfl), h⟩
/-- A reader, perhaps at its end. -/
structure RAt0 (w : World) (R b : Nat) (v : Value) (L : List Tk) (a : Nat) : Prop where
  r : Rdr w R v a
  t : RowT w b v L
  ne : some R ≠ v.ownBlock
  g : GoodL L
theorem RAt0.at {w : World} {R b a : Nat} {v : Value} {L : List Tk} (h : RAt0 w R b v L a) (ha : a < L.length) : RAt w R b v L a := ⟨h.r, h.t, h.ne, h.g, ha⟩
theorem RAt.drew {w : World} {R b a : Nat} {v : Value} {L : List Tk} (h : RAt w R b v L a) : RAt w.drew R b v L a := h.on (Below.refl _ _).drew
theorem but_kp {P R : Nat} {w w1 w2 : World} (h : But P w w1) (g : Kp P R w1 w2) (hR : w.heap.size ≤ R) : But P w w2 := ⟨g.os.trans h.os, g.tape.trans h.tape, g.output.trans h.output, Nat.le_trans h.size g.size, fun k h1 h2 => (g.block k (by omega) h2).trans (h.block k h1 h2)⟩

theorem LU.keep {w w1 : World} {P R : Nat} {out : List Rp} (h : LU w P R out) (hb : Below w.heap.size w w1) : LU w1 P R out := by
  obtain ⟨u, h1, h2⟩ := h
  exact ⟨u, blk_on h1 hb, h2.on hb⟩
theorem LU.put {w : World} {P R : Nat} {out : List Rp} (h : LU w P R out) (hP : P ≠ R) (x : Value) : LU (w.setCell ⟨R, 1, none⟩ x) P R out := by
  obtain ⟨u, h1, h2⟩ := h
  exact ⟨u, blk_far h1 hP _, h2.put (fun e => by have := (h2.lt _ e.symm).1; omega) _⟩
theorem len_R {L : List Tk} {T : List Rp × Wr} {out : List Rp} {a : Nat} (h : out.length ≤ 64) (h0 : (oneS chkN L out a).2.w = ⟨0, 0, 0⟩) : (out ++ [(oneS chkN L out a).1]).length ≤ 64 := by
  have := (one_ok (chk := chkN) (L := L) (out := out) (a := a) (by rw [h0]))
  simp only [List.length_append, List.length_cons, List.length_nil]
  have hq := this.2.2.1
  omega
set_option maxRecDepth 20000 in
set_option maxHeartbeats 16000000 in
theorem readR (s : ByteArray) (w : World) (P : Nat) (hs : s.size ≤ 16777216) (hg : Hnd w) (hA : ActAt zA w) (hC : CmdAt zC w) (hgP : 8 < P) (hP : w.heap[P]? = some (.cells #[.slice none 0 0] 33)) :
    Calls Tryz.prog 17 #[.string s, .func (.func 23) #[] #[.pointer (some ⟨P, 0, none⟩)]] w fun e w' => But P w w' ∧ (((rulesT chkN s).2.e ≠ 0 ∧ ∃ F : Nat, e = .returned (.iface 72 (.pointer (some ⟨F, 0, none⟩))) ∧ Flt w' F ((rulesT chkN s).2.e : Int) ((rulesT chkN s).2.l : Int) ((rulesT chkN s).2.c : Int) ∧ w.heap.size ≤ F) ∨ ((rulesT chkN s).2.e = 0 ∧ e = .returned .nilIface ∧ ∃ u : Value, w'.heap[P]? = some (.cells #[u] 33) ∧ RowU w' w.heap.size u ((rulesT chkN s).1.map ruOf))) := by
  have hmf := makeF
  have hlP := blk_lt hP
  have HP0 : Hid ((w.alloc (.cells #[.nilIface] 25)).heap[P]? = some (.cells #[.slice none 0 0] 33)) := blk_alloc hP _
  have HE0 : Hid ((w.alloc (.cells #[.nilIface] 25)).heap[w.heap.size]? = some (.cells #[.nilIface] 25)) := blk_new w _
  have HA0 : Hid (ActAt zA (w.alloc (.cells #[.nilIface] 25))) := blk_alloc hA _
  have HC0 : Hid (CmdAt zC (w.alloc (.cells #[.nilIface] 25))) := blk_alloc hC _
  have HB0 : Hid (But P w (w.alloc (.cells #[.nilIface] 25))) := (But.refl P w).al _
  have hz0 : (w.alloc (.cells #[.nilIface] 25)).heap.size = w.heap.size + 1 := by simp
  by_cases hlx : (lexT s).2.e = 0
  rotate_left
  · have hT : rulesT chkN s = ([], (lexT s).2) := by unfold rulesT; rw [if_pos hlx]
    have hTk := tokBad s (w.alloc (.cells #[.nilIface] 25)) hs (hg.alloc _) hlx
    rw [hT]
    generalize lexT s = LX at *
    clear hT hg hA hC hP
    go_enter_defers Tryz.func17, Tryz.ntmps17
    go_wp2_with (fail)
    refine hTk.mono ?_
    rintro e w1 ⟨⟨F, rfl, hF, hl⟩, hb1⟩
    refine leave_bad rfl (blk_on HE0.out hb1) ?_
    rw [hz0] at hl
    refine ⟨but_newer (HB0.out.then hb1) (only_set _ _ _ _) (Nat.le_refl _), .inl ⟨hlx, F, rfl, blk_far hF (by omega) _, by omega⟩⟩
  have hT : rulesT chkN s = rulesF chkN (lexT s).1 ((lexT s).1.length + 1) [] 0 := by unfold rulesT; rw [if_neg (by rw [hlx]; simp)]
  have HI0 : Hid (RuI (lexT s).1 (rulesT chkN s) [] 0 chkN) := ⟨_, hT.symm, by omega⟩
  have hGL := lex_good hlx
  have hTk := tokOk s (w.alloc (.cells #[.nilIface] 25)) hs (hg.alloc _) hlx
  generalize rulesT chkN s = T at *
  generalize lexT s = LX at *
  obtain ⟨L, lx⟩ := LX
  simp only at HI0 hGL hTk
  clear hT hg hA hC hP hlx lx
  go_enter_defers Tryz.func17, Tryz.ntmps17
  go_wp2_with (fail)
  refine hTk.mono ?_
  rintro e w1 ⟨v1, rfl, hrow1, hb1⟩
  obtain ⟨ad1, cap1, hv1, hc1, _⟩ := hrow1.form
  obtain ⟨n, hn⟩ : ∃ n, n = L.length := ⟨_, rfl⟩
  rw [← hn] at hv1 hc1
  subst hv1
  have HN : Hid (n = L.length) := hn
  have HE1 := blk_on HE0.out hb1
  have hz1 : w.heap.size + 1 ≤ w1.heap.size := by have := hb1.size; rw [hz0] at this; exact this
  have HOld : Hid (Old w1.heap.size (.slice ad1 n cap1)) := fun k hk => (hrow1.lt k hk).2
  have HRw : Hid (RowT w1 (w.heap.size + 1) (.slice ad1 n cap1) L) := by rw [hz0] at hrow1; exact hrow1
  have HP1 : Hid (w1.heap[P]? = some (.cells #[.slice none 0 0] 33)) := blk_on HP0.out hb1
  have HE1 : Hid (w1.heap[w.heap.size]? = some (.cells #[.nilIface] 25)) := blk_on HE0.out hb1
  have HA1 : Hid (ActAt zA w1) := blk_on HA0.out hb1
  have HC1 : Hid (CmdAt zC w1) := blk_on HC0.out hb1
  have HB1 : Hid (But P w w1) := HB0.out.then hb1
  have hnb : (n : Int) ≤ 200000 := by have := hGL.len; omega
  clear hb1 hrow1 hn hc1 HP0 HE0 HA0 HC0 HB0 hTk
  have HRd1 : Hid (RAt0 (w1.alloc (.cells #[.slice ad1 n cap1, .int .i64 0] 81)) w1.heap.size (w.heap.size + 1) (.slice ad1 n cap1) L 0) := ⟨blk_new w1 _, HRw.out.alloc _, fun e => by have := HOld.out _ e.symm; omega, hGL⟩
  have HP2 : Hid (LU (w1.alloc (.cells #[.slice ad1 n cap1, .int .i64 0] 81)) P w1.heap.size []) := ⟨_, blk_alloc HP1.out _, RowU.nil _ _⟩
  have HE2 : Hid ((w1.alloc (.cells #[.slice ad1 n cap1, .int .i64 0] 81)).heap[w.heap.size]? = some (.cells #[.nilIface] 25)) := blk_alloc HE1.out _
  have HA2 : Hid (ActAt zA (w1.alloc (.cells #[.slice ad1 n cap1, .int .i64 0] 81))) := blk_alloc HA1.out _
  have HC2 : Hid (CmdAt zC (w1.alloc (.cells #[.slice ad1 n cap1, .int .i64 0] 81))) := blk_alloc HC1.out _
  have HB2 : Hid (But P w (w1.alloc (.cells #[.slice ad1 n cap1, .int .i64 0] 81))) := HB1.out.al _
  have HL0 : Hid (([] : List Rp).length ≤ 64) := Nat.zero_le _
  clear HP1 HE1 HA1 HC1 HB1 HRw
  obtain ⟨R, hRe⟩ : ∃ R, R = w1.heap.size := ⟨_, rfl⟩
  rw [← hRe] at HRd1 HP2 HOld hz1
  go_wp2_with (fail)
  rw [← hRe]
  generalize hW1 : w1.alloc (.cells #[.slice ad1 n cap1, .int .i64 0] 81) = W1 at *
  clear hW1 hRe
  have hv5 := fldTok0
  have hEs : ∀ W : World, (W.setCell ⟨w.heap.size, 0, none⟩ .nilIface).heap[w.heap.size]? = (W.setCell ⟨w.heap.size, 0, none⟩ .nilIface).heap[w.heap.size]? := fun _ => rfl
  clear hEs
  go_loopw [11] (fun _ wr => ∃ (a : Nat) (out : List Rp), Hid (a ≤ L.length) ∧ Hid (RAt0 wr R (w.heap.size + 1) (.slice ad1 n cap1) L a) ∧ Hid (LU wr P R out) ∧ Hid (Kp P R W1 wr) ∧ Hid (RuI L T out a chkN) ∧ Hid (out.length ≤ 64)) (fun _ wr => L.length - rdAt R wr)
  case atStart => exact ⟨0, [], Nat.zero_le _, HRd1.out, HP2.out, Kp.refl _ _ _, HI0.out, HL0.out⟩
  case round =>
    obtain ⟨a, out, HLe, HRd, HLL, HK, HI, HM⟩ := hrel
    have HEr : Hid (wr.heap[w.heap.size]? = some (.cells #[.nilIface] 25)) := HK.out.blk HE2.out (by omega) (by omega)
    have HAr : Hid (ActAt zA wr) := HK.out.blk HA2.out (by omega) (by omega)
    have HCr : Hid (CmdAt zC wr) := HK.out.blk HC2.out (by omega) (by omega)
    have HBr : Hid (But P w wr) := but_kp HB2.out HK.out (by omega)
    have Hat : Hid (rdAt R wr = a) := rdAt_is HRd.out.r
    obtain ⟨c0, c1⟩ := blk2 HRd.out.r
    have ha0 : (a : Int) ≤ 200000 := by have := HLe.out; have := HN.out; omega
    have hlR := blk_lt HRd.out.r
    by_cases hlt : a < n
    · have hltL : a < L.length := by rw [← HN.out]; exact hlt
      have hlt' : (a : Int) < (n : Int) := by omega
      have hNx := nextC wr.drew R (w.heap.size + 1) a (.slice ad1 n cap1) L (HRd.out.at hltL).drew
      have hk1 : ¬ R = P := by omega
      have hRA := (HRd.out.at hltL).drew
      by_cases hk : (tkA L a).k = 4
      · rw [hk] at hNx
        have HI2 : Hid (RuI L T out (a + 1) chkN) := HI.out.blank hltL hk
        clear hk
        generalize tkA L a = p at hNx
        go_wp2_with (fail)
        go_region
        all_goals go_wp2_with (fail)
        refine hNx.mono ?_
        rintro e w2 ⟨rfl, hb2⟩
        have HR2 : Hid (RAt w2 R (w.heap.size + 1) (.slice ad1 n cap1) L a) := hRA.on hb2
        have HL2 : Hid (LU w2 P R out) := (LU.keep HLL.out (Below.refl _ _).drew).keep hb2
        have HK2 : Hid (Kp P R W1 w2) := (HK.out.tr (Kp.below (Below.refl wr.heap.size wr).drew (Nat.le_of_lt hlR))).tr (Kp.below hb2 (Nat.le_of_lt hlR))
        have z2 := blk_free HR2.out.r 1
        obtain ⟨c2, c3⟩ := blk2 HR2.out.r
        clear hb2 c0 c1 hRA hNx
        go_wp2_with (fail)
        go_roundw
        case rel => exact ⟨a + 1, out, hltL, ⟨HR2.out.r.put, HR2.out.t.put HR2.out.ne _, HR2.out.ne, HR2.out.g⟩, LU.put HL2.out (by omega) _, HK2.out.tr (Kp.but (but_set _ _ _ _) (blk_lt HR2.out.r)), HI2.out, HM.out⟩
        case measure => rw [rdAt_is HR2.out.r.put, Hat.out]; omega
      · have hk' : ¬ ((tkA L a).k : Int) = 4 := by omega
        have hSt := fun W h1 h2 h3 h4 => rulesStep (zA := zA) (zC := zC) W P R (w.heap.size + 1) a (.slice ad1 n cap1) L h1 h2 h3 hgP (by omega) (fun k hk => HOld.out k hk) out h4 HM.out
        have HIb : Hid ((oneS chkN L out a).2.w.e ≠ 0 → T = ([], (oneS chkN L out a).2.w)) := fun hne => HI.out.bad hltL hk hne
        have HIo : Hid ((oneS chkN L out a).2.w = ⟨0, 0, 0⟩ → RuI L T (out ++ [(oneS chkN L out a).1]) ((oneS chkN L out a).2.a + 1) chkN) := fun h0 => HI.out.one hltL hk h0
        have HOl : Hid ((oneS chkN L out a).2.a + 1 ≤ L.length) := one_lt chkN hGL out hltL
        have HOg : Hid (a ≤ (oneS chkN L out a).2.a) := one_ge chkN L out a
        have HOm : Hid ((oneS chkN L out a).2.w = ⟨0, 0, 0⟩ → (out ++ [(oneS chkN L out a).1]).length ≤ 64) := fun h0 => len_R (T := T) HM.out h0
        clear hk
        generalize tkA L a = p at hNx hk'
        generalize oneS chkN L out a = O at *
        go_wp2_with (fail)
        go_region
        all_goals go_wp2_with (fail)
        refine hNx.mono ?_
        rintro e w2 ⟨rfl, hb2⟩
        have HR2 : Hid (RAt w2 R (w.heap.size + 1) (.slice ad1 n cap1) L a) := hRA.on hb2
        have HL2 : Hid (LU w2 P R out) := (LU.keep HLL.out (Below.refl _ _).drew).keep hb2
        have HK2 : Hid (Kp P R W1 w2) := (HK.out.tr (Kp.below (Below.refl wr.heap.size wr).drew (Nat.le_of_lt hlR))).tr (Kp.below hb2 (Nat.le_of_lt hlR))
        have HA3 : Hid (ActAt zA w2) := HK2.out.blk HA2.out (by omega) (by omega)
        have HC3 : Hid (CmdAt zC w2) := HK2.out.blk HC2.out (by omega) (by omega)
        have HB3 : Hid (But P w w2) := but_kp HB2.out HK2.out (by omega)
        clear hb2 c0 c1 hRA hNx
        go_wp2_with (fail)
        refine (hSt _ HR2.out HA3.out HC3.out HL2.out).mono ?_
        rintro e w3 ⟨hK3, ⟨hne, F, rfl, hF, hl⟩ | ⟨h0, rfl, hR3, hL3⟩⟩
        · have hTe := HIb.out hne
          have hE3 : w3.heap[w.heap.size]? = some (.cells #[.nilIface] 25) := (HK2.out.tr hK3).blk HE2.out (by omega) (by omega)
          have hlt2 := blk_lt HR2.out.r
          refine leave_bad rfl hE3 ?_
          rw [hTe]
          exact ⟨but_newer (but_kp HB2.out (HK2.out.tr hK3) (by omega)) (only_set _ _ _ _) (Nat.le_refl _), .inl ⟨hne, F, rfl, blk_far hF (by omega) _, by omega⟩⟩
        · have HR3 : Hid (Rdr w3 R (.slice ad1 n cap1) (O.2.a + 1)) := hR3
          have HRow3 : Hid (RowT w3 (w.heap.size + 1) (.slice ad1 n cap1) L) := hK3.row HR2.out.t (fun k hk => HOld.out k hk) (fun e => by have := (HR2.out.t.lt _ e.symm).1; omega)
          have HL3 : Hid (LU w3 P R (out ++ [O.1])) := hL3
          have HK3 : Hid (Kp P R W1 w3) := HK2.out.tr hK3
          have HI3 : Hid (RuI L T (out ++ [O.1]) (O.2.a + 1) chkN) := HIo.out h0
          have HM3 : Hid ((out ++ [O.1]).length ≤ 64) := HOm.out h0
          clear hK3 h0 hR3 hL3 hSt
          go_wp2_with (fail)
          go_roundw
          case rel => exact ⟨O.2.a + 1, out ++ [O.1], HOl.out, ⟨HR3.out, HRow3.out, HR2.out.ne, HR2.out.g⟩, HL3.out, HK3.out, HI3.out, HM3.out⟩
          case measure => rw [rdAt_is HR3.out, Hat.out]; have := HOg.out; omega
    · have hnlt : ¬ a < L.length := by rw [← HN.out]; exact hlt
      have hTe : Hid (T = (out, ⟨0, 0, 0⟩)) := HI.out.fin hnlt
      have hlt' : ¬ (a : Int) < (n : Int) := by omega
      have e0 : wr.cell? ⟨w.heap.size, 0, none⟩ = some .nilIface := blk_cell HEr.out rfl
      have ez := blk_free HEr.out 0
      go_wp2_with (fail)
      go_region
      all_goals go_wp2_with (fail)
      refine leave_ok rfl (blk_set (j := 0) HEr.out _) ?_
      rw [hTe.out]
      obtain ⟨u, hu1, hu2⟩ := HLL.out
      exact ⟨but_newer HBr.out (only_set _ _ _ _).drew (Nat.le_refl _), .inr ⟨rfl, rfl, u, blk_far hu1 (by omega) _, (hu2.put (fun e => by have := (hu2.lt _ e.symm).1; omega) _).base (by omega)⟩⟩
theorem but_new {w w1 : World} {o : Obj} (h : But w.heap.size (w.alloc o) w1) : Below w.heap.size w w1 := ⟨h.os, h.tape, h.output, by have := h.size; simp at this; omega, fun k hk => by rw [h.block k (by simp; omega) (by omega)]; exact Below.heap_alloc _ _ _ hk⟩
set_option maxRecDepth 20000 in
set_option maxHeartbeats 4000000 in
theorem RulesOk (s : ByteArray) (w : World) (hs : s.size ≤ 16777216) (hg : Hnd w) (hA : ActAt zA w) (hC : CmdAt zC w) (he : (rulesT chkN s).2.e = 0) :
    Calls Tryz.prog 12 #[.string s] w fun e w' => ∃ u : Value, e = .returned (.tuple #[u, .nilIface]) ∧ RowU w' w.heap.size u ((rulesT chkN s).1.map ruOf) ∧ Below w.heap.size w w' := by
  have hR := readR s (w.alloc (.cells #[.slice none 0 0] 33)) w.heap.size hs (hg.alloc _) (blk_alloc hA _) (blk_alloc hC _) hg.lt (blk_new w _)
  have hmf := makeF
  generalize rulesT chkN s = T at *
  clear hs hg hA hC
  go_enter Tryz.func12, Tryz.ntmps12
  go_wp2_with (fail)
  refine hR.mono ?_
  rintro e w1 ⟨hB, ⟨hne, _⟩ | ⟨h0, rfl, u, hu1, hu2⟩⟩
  · exact absurd he hne
  obtain ⟨ad, cap, hv, hx1, hx2⟩ := hu2.form
  clear hx1 hx2
  subst hv
  have HB : Hid (Below w.heap.size w w1) := but_new hB
  have HU : Hid (RowU w1 w.heap.size (.slice ad (T.1.map ruOf).length cap) (T.1.map ruOf)) := hu2.base (by simp)
  have c0 : w1.cell? ⟨w.heap.size, 0, none⟩ = some (.slice ad (T.1.map ruOf).length cap) := blk_cell hu1 rfl
  clear hB hu1 hu2 hR
  obtain ⟨n, hn⟩ : ∃ n, n = (T.1.map ruOf).length := ⟨_, rfl⟩
  rw [← hn] at HU c0
  clear hn
  go_wp2_with (fail)
  go_ret2
  exact ⟨_, rfl, HU.out, HB.out⟩
set_option maxRecDepth 20000 in
set_option maxHeartbeats 4000000 in
theorem RulesBad (s : ByteArray) (w : World) (hs : s.size ≤ 16777216) (hg : Hnd w) (hA : ActAt zA w) (hC : CmdAt zC w) (he : (rulesT chkN s).2.e ≠ 0) :
    Calls Tryz.prog 12 #[.string s] w fun e w' => ∃ F : Nat, e = .returned (.tuple #[.slice none 0 0, .iface 72 (.pointer (some ⟨F, 0, none⟩))]) ∧ Flt w' F ((rulesT chkN s).2.e : Int) ((rulesT chkN s).2.l : Int) ((rulesT chkN s).2.c : Int) ∧ w.heap.size ≤ F ∧ Below w.heap.size w w' := by
  have hR := readR s (w.alloc (.cells #[.slice none 0 0] 33)) w.heap.size hs (hg.alloc _) (blk_alloc hA _) (blk_alloc hC _) hg.lt (blk_new w _)
  have hmf := makeF
  generalize rulesT chkN s = T at *
  clear hs hg hA hC
  go_enter Tryz.func12, Tryz.ntmps12
  go_wp2_with (fail)
  refine hR.mono ?_
  rintro e w1 ⟨hB, ⟨hne, F, rfl, hF, hl⟩ | ⟨h0, _⟩⟩
  rotate_left
  · exact absurd h0 he
  have HB : Hid (Below w.heap.size w w1) := but_new hB
  have HF : Hid _ := hF
  have hl' : w.heap.size ≤ F := by simp at hl; omega
  clear hB hF hR hl
  go_wp2_with (fail)
  go_ret2
  exact ⟨F, rfl, HF.out, hl', HB.out⟩

theorem LV.keep {w w1 : World} {P R : Nat} {out : List Cm} (h : LV w P R out) (hb : Below w.heap.size w w1) : LV w1 P R out := by
  obtain ⟨u, h1, h2⟩ := h
  exact ⟨u, blk_on h1 hb, h2.on hb⟩
theorem LV.put {w : World} {P R : Nat} {out : List Cm} (h : LV w P R out) (hP : P ≠ R) (x : Value) : LV (w.setCell ⟨R, 1, none⟩ x) P R out := by
  obtain ⟨u, h1, h2⟩ := h
  exact ⟨u, blk_far h1 hP _, h2.put (fun e => by have := (h2.lt _ e.symm).1; omega) _⟩
theorem len_S {L : List Tk} {T : List Cm × Wr} {out : List Cm} {a : Nat} (h : out.length ≤ 1000) (h0 : (oneC chkN L out.length a).2.w = ⟨0, 0, 0⟩) : (out ++ [(oneC chkN L out.length a).1]).length ≤ 1000 := by
  have := (one_okC (chk := chkN) (L := L) (n := out.length) (a := a) (by rw [h0]))
  simp only [List.length_append, List.length_cons, List.length_nil]
  have hq := this.2.2.2.1
  omega
set_option maxRecDepth 20000 in
set_option maxHeartbeats 16000000 in
theorem readS (s : ByteArray) (w : World) (P : Nat) (hs : s.size ≤ 16777216) (hg : Hnd w) (hA : ActAt zA w) (hC : CmdAt zC w) (hgP : 8 < P) (hP : w.heap[P]? = some (.cells #[.slice none 0 0] 23)) :
    Calls Tryz.prog 17 #[.string s, .func (.func 18) #[] #[.pointer (some ⟨P, 0, none⟩)]] w fun e w' => But P w w' ∧ (((scrT chkN s).2.e ≠ 0 ∧ ∃ F : Nat, e = .returned (.iface 72 (.pointer (some ⟨F, 0, none⟩))) ∧ Flt w' F ((scrT chkN s).2.e : Int) ((scrT chkN s).2.l : Int) ((scrT chkN s).2.c : Int) ∧ w.heap.size ≤ F) ∨ ((scrT chkN s).2.e = 0 ∧ e = .returned .nilIface ∧ ∃ u : Value, w'.heap[P]? = some (.cells #[u] 23) ∧ RowV w' w.heap.size u ((scrT chkN s).1.map cvOf))) := by
  have hmf := makeF
  have hlP := blk_lt hP
  have HP0 : Hid ((w.alloc (.cells #[.nilIface] 25)).heap[P]? = some (.cells #[.slice none 0 0] 23)) := blk_alloc hP _
  have HE0 : Hid ((w.alloc (.cells #[.nilIface] 25)).heap[w.heap.size]? = some (.cells #[.nilIface] 25)) := blk_new w _
  have HA0 : Hid (ActAt zA (w.alloc (.cells #[.nilIface] 25))) := blk_alloc hA _
  have HC0 : Hid (CmdAt zC (w.alloc (.cells #[.nilIface] 25))) := blk_alloc hC _
  have HB0 : Hid (But P w (w.alloc (.cells #[.nilIface] 25))) := (But.refl P w).al _
  have hz0 : (w.alloc (.cells #[.nilIface] 25)).heap.size = w.heap.size + 1 := by simp
  by_cases hlx : (lexT s).2.e = 0
  rotate_left
  · have hT : scrT chkN s = ([], (lexT s).2) := by unfold scrT; rw [if_pos hlx]
    have hTk := tokBad s (w.alloc (.cells #[.nilIface] 25)) hs (hg.alloc _) hlx
    rw [hT]
    generalize lexT s = LX at *
    clear hT hg hA hC hP
    go_enter_defers Tryz.func17, Tryz.ntmps17
    go_wp2_with (fail)
    refine hTk.mono ?_
    rintro e w1 ⟨⟨F, rfl, hF, hl⟩, hb1⟩
    refine leave_bad rfl (blk_on HE0.out hb1) ?_
    rw [hz0] at hl
    refine ⟨but_newer (HB0.out.then hb1) (only_set _ _ _ _) (Nat.le_refl _), .inl ⟨hlx, F, rfl, blk_far hF (by omega) _, by omega⟩⟩
  have hT : scrT chkN s = scrF chkN (lexT s).1 ((lexT s).1.length + 1) [] 0 := by unfold scrT; rw [if_neg (by rw [hlx]; simp)]
  have HI0 : Hid (ScI2 (lexT s).1 (scrT chkN s) [] 0 chkN) := ⟨_, hT.symm, by omega⟩
  have hGL := lex_good hlx
  have hTk := tokOk s (w.alloc (.cells #[.nilIface] 25)) hs (hg.alloc _) hlx
  generalize scrT chkN s = T at *
  generalize lexT s = LX at *
  obtain ⟨L, lx⟩ := LX
  simp only at HI0 hGL hTk
  clear hT hg hA hC hP hlx lx
  go_enter_defers Tryz.func17, Tryz.ntmps17
  go_wp2_with (fail)
  refine hTk.mono ?_
  rintro e w1 ⟨v1, rfl, hrow1, hb1⟩
  obtain ⟨ad1, cap1, hv1, hc1, _⟩ := hrow1.form
  obtain ⟨n, hn⟩ : ∃ n, n = L.length := ⟨_, rfl⟩
  rw [← hn] at hv1 hc1
  subst hv1
  have HN : Hid (n = L.length) := hn
  have HE1 := blk_on HE0.out hb1
  have hz1 : w.heap.size + 1 ≤ w1.heap.size := by have := hb1.size; rw [hz0] at this; exact this
  have HOld : Hid (Old w1.heap.size (.slice ad1 n cap1)) := fun k hk => (hrow1.lt k hk).2
  have HRw : Hid (RowT w1 (w.heap.size + 1) (.slice ad1 n cap1) L) := by rw [hz0] at hrow1; exact hrow1
  have HP1 : Hid (w1.heap[P]? = some (.cells #[.slice none 0 0] 23)) := blk_on HP0.out hb1
  have HE1 : Hid (w1.heap[w.heap.size]? = some (.cells #[.nilIface] 25)) := blk_on HE0.out hb1
  have HA1 : Hid (ActAt zA w1) := blk_on HA0.out hb1
  have HC1 : Hid (CmdAt zC w1) := blk_on HC0.out hb1
  have HB1 : Hid (But P w w1) := HB0.out.then hb1
  have hnb : (n : Int) ≤ 200000 := by have := hGL.len; omega
  clear hb1 hrow1 hn hc1 HP0 HE0 HA0 HC0 HB0 hTk
  have HRd1 : Hid (RAt0 (w1.alloc (.cells #[.slice ad1 n cap1, .int .i64 0] 81)) w1.heap.size (w.heap.size + 1) (.slice ad1 n cap1) L 0) := ⟨blk_new w1 _, HRw.out.alloc _, fun e => by have := HOld.out _ e.symm; omega, hGL⟩
  have HP2 : Hid (LV (w1.alloc (.cells #[.slice ad1 n cap1, .int .i64 0] 81)) P w1.heap.size []) := ⟨_, blk_alloc HP1.out _, RowV.nil _ _⟩
  have HE2 : Hid ((w1.alloc (.cells #[.slice ad1 n cap1, .int .i64 0] 81)).heap[w.heap.size]? = some (.cells #[.nilIface] 25)) := blk_alloc HE1.out _
  have HA2 : Hid (ActAt zA (w1.alloc (.cells #[.slice ad1 n cap1, .int .i64 0] 81))) := blk_alloc HA1.out _
  have HC2 : Hid (CmdAt zC (w1.alloc (.cells #[.slice ad1 n cap1, .int .i64 0] 81))) := blk_alloc HC1.out _
  have HB2 : Hid (But P w (w1.alloc (.cells #[.slice ad1 n cap1, .int .i64 0] 81))) := HB1.out.al _
  have HL0 : Hid (([] : List Cm).length ≤ 1000) := Nat.zero_le _
  clear HP1 HE1 HA1 HC1 HB1 HRw
  obtain ⟨R, hRe⟩ : ∃ R, R = w1.heap.size := ⟨_, rfl⟩
  rw [← hRe] at HRd1 HP2 HOld hz1
  go_wp2_with (fail)
  rw [← hRe]
  generalize hW1 : w1.alloc (.cells #[.slice ad1 n cap1, .int .i64 0] 81) = W1 at *
  clear hW1 hRe
  have hv5 := fldTok0
  have hEs : ∀ W : World, (W.setCell ⟨w.heap.size, 0, none⟩ .nilIface).heap[w.heap.size]? = (W.setCell ⟨w.heap.size, 0, none⟩ .nilIface).heap[w.heap.size]? := fun _ => rfl
  clear hEs
  go_loopw [11] (fun _ wr => ∃ (a : Nat) (out : List Cm), Hid (a ≤ L.length) ∧ Hid (RAt0 wr R (w.heap.size + 1) (.slice ad1 n cap1) L a) ∧ Hid (LV wr P R out) ∧ Hid (Kp P R W1 wr) ∧ Hid (ScI2 L T out a chkN) ∧ Hid (out.length ≤ 1000)) (fun _ wr => L.length - rdAt R wr)
  case atStart => exact ⟨0, [], Nat.zero_le _, HRd1.out, HP2.out, Kp.refl _ _ _, HI0.out, HL0.out⟩
  case round =>
    obtain ⟨a, out, HLe, HRd, HLL, HK, HI, HM⟩ := hrel
    have HEr : Hid (wr.heap[w.heap.size]? = some (.cells #[.nilIface] 25)) := HK.out.blk HE2.out (by omega) (by omega)
    have HAr : Hid (ActAt zA wr) := HK.out.blk HA2.out (by omega) (by omega)
    have HCr : Hid (CmdAt zC wr) := HK.out.blk HC2.out (by omega) (by omega)
    have HBr : Hid (But P w wr) := but_kp HB2.out HK.out (by omega)
    have Hat : Hid (rdAt R wr = a) := rdAt_is HRd.out.r
    obtain ⟨c0, c1⟩ := blk2 HRd.out.r
    have ha0 : (a : Int) ≤ 200000 := by have := HLe.out; have := HN.out; omega
    have hlR := blk_lt HRd.out.r
    by_cases hlt : a < n
    · have hltL : a < L.length := by rw [← HN.out]; exact hlt
      have hlt' : (a : Int) < (n : Int) := by omega
      have hNx := nextC wr.drew R (w.heap.size + 1) a (.slice ad1 n cap1) L (HRd.out.at hltL).drew
      have hk1 : ¬ R = P := by omega
      have hRA := (HRd.out.at hltL).drew
      by_cases hk : (tkA L a).k = 4
      · rw [hk] at hNx
        have HI2 : Hid (ScI2 L T out (a + 1) chkN) := HI.out.blank hltL hk
        clear hk
        generalize tkA L a = p at hNx
        go_wp2_with (fail)
        go_region
        all_goals go_wp2_with (fail)
        refine hNx.mono ?_
        rintro e w2 ⟨rfl, hb2⟩
        have HR2 : Hid (RAt w2 R (w.heap.size + 1) (.slice ad1 n cap1) L a) := hRA.on hb2
        have HL2 : Hid (LV w2 P R out) := (LV.keep HLL.out (Below.refl _ _).drew).keep hb2
        have HK2 : Hid (Kp P R W1 w2) := (HK.out.tr (Kp.below (Below.refl wr.heap.size wr).drew (Nat.le_of_lt hlR))).tr (Kp.below hb2 (Nat.le_of_lt hlR))
        have z2 := blk_free HR2.out.r 1
        obtain ⟨c2, c3⟩ := blk2 HR2.out.r
        clear hb2 c0 c1 hRA hNx
        go_wp2_with (fail)
        go_roundw
        case rel => exact ⟨a + 1, out, hltL, ⟨HR2.out.r.put, HR2.out.t.put HR2.out.ne _, HR2.out.ne, HR2.out.g⟩, LV.put HL2.out (by omega) _, HK2.out.tr (Kp.but (but_set _ _ _ _) (blk_lt HR2.out.r)), HI2.out, HM.out⟩
        case measure => rw [rdAt_is HR2.out.r.put, Hat.out]; omega
      · have hk' : ¬ ((tkA L a).k : Int) = 4 := by omega
        have hSt := fun W h1 h2 h3 h4 => scriptStep (zA := zA) (zC := zC) W P R (w.heap.size + 1) a (.slice ad1 n cap1) L h1 h2 h3 hgP (by omega) (fun k hk => HOld.out k hk) out h4 HM.out
        have HIb : Hid ((oneC chkN L out.length a).2.w.e ≠ 0 → T = ([], (oneC chkN L out.length a).2.w)) := fun hne => HI.out.bad hltL hk hne
        have HIo : Hid ((oneC chkN L out.length a).2.w = ⟨0, 0, 0⟩ → ScI2 L T (out ++ [(oneC chkN L out.length a).1]) ((oneC chkN L out.length a).2.a + 1) chkN) := fun h0 => HI.out.one hltL hk h0
        have HOl : Hid ((oneC chkN L out.length a).2.a + 1 ≤ L.length) := one_ltC chkN hGL out.length hltL
        have HOg : Hid (a ≤ (oneC chkN L out.length a).2.a) := one_geC chkN L out.length a
        have HOm : Hid ((oneC chkN L out.length a).2.w = ⟨0, 0, 0⟩ → (out ++ [(oneC chkN L out.length a).1]).length ≤ 1000) := fun h0 => len_S (T := T) HM.out h0
        clear hk
        generalize tkA L a = p at hNx hk'
        generalize oneC chkN L out.length a = O at *
        go_wp2_with (fail)
        go_region
        all_goals go_wp2_with (fail)
        refine hNx.mono ?_
        rintro e w2 ⟨rfl, hb2⟩
        have HR2 : Hid (RAt w2 R (w.heap.size + 1) (.slice ad1 n cap1) L a) := hRA.on hb2
        have HL2 : Hid (LV w2 P R out) := (LV.keep HLL.out (Below.refl _ _).drew).keep hb2
        have HK2 : Hid (Kp P R W1 w2) := (HK.out.tr (Kp.below (Below.refl wr.heap.size wr).drew (Nat.le_of_lt hlR))).tr (Kp.below hb2 (Nat.le_of_lt hlR))
        have HA3 : Hid (ActAt zA w2) := HK2.out.blk HA2.out (by omega) (by omega)
        have HC3 : Hid (CmdAt zC w2) := HK2.out.blk HC2.out (by omega) (by omega)
        have HB3 : Hid (But P w w2) := but_kp HB2.out HK2.out (by omega)
        clear hb2 c0 c1 hRA hNx
        go_wp2_with (fail)
        refine (hSt _ HR2.out HA3.out HC3.out HL2.out).mono ?_
        rintro e w3 ⟨hK3, ⟨hne, F, rfl, hF, hl⟩ | ⟨h0, rfl, hR3, hL3⟩⟩
        · have hTe := HIb.out hne
          have hE3 : w3.heap[w.heap.size]? = some (.cells #[.nilIface] 25) := (HK2.out.tr hK3).blk HE2.out (by omega) (by omega)
          have hlt2 := blk_lt HR2.out.r
          refine leave_bad rfl hE3 ?_
          rw [hTe]
          exact ⟨but_newer (but_kp HB2.out (HK2.out.tr hK3) (by omega)) (only_set _ _ _ _) (Nat.le_refl _), .inl ⟨hne, F, rfl, blk_far hF (by omega) _, by omega⟩⟩
        · have HR3 : Hid (Rdr w3 R (.slice ad1 n cap1) (O.2.a + 1)) := hR3
          have HRow3 : Hid (RowT w3 (w.heap.size + 1) (.slice ad1 n cap1) L) := hK3.row HR2.out.t (fun k hk => HOld.out k hk) (fun e => by have := (HR2.out.t.lt _ e.symm).1; omega)
          have HL3 : Hid (LV w3 P R (out ++ [O.1])) := hL3
          have HK3 : Hid (Kp P R W1 w3) := HK2.out.tr hK3
          have HI3 : Hid (ScI2 L T (out ++ [O.1]) (O.2.a + 1) chkN) := HIo.out h0
          have HM3 : Hid ((out ++ [O.1]).length ≤ 1000) := HOm.out h0
          clear hK3 h0 hR3 hL3 hSt
          go_wp2_with (fail)
          go_roundw
          case rel => exact ⟨O.2.a + 1, out ++ [O.1], HOl.out, ⟨HR3.out, HRow3.out, HR2.out.ne, HR2.out.g⟩, HL3.out, HK3.out, HI3.out, HM3.out⟩
          case measure => rw [rdAt_is HR3.out, Hat.out]; have := HOg.out; omega
    · have hnlt : ¬ a < L.length := by rw [← HN.out]; exact hlt
      have hTe : Hid (T = (out, ⟨0, 0, 0⟩)) := HI.out.fin hnlt
      have hlt' : ¬ (a : Int) < (n : Int) := by omega
      have e0 : wr.cell? ⟨w.heap.size, 0, none⟩ = some .nilIface := blk_cell HEr.out rfl
      have ez := blk_free HEr.out 0
      go_wp2_with (fail)
      go_region
      all_goals go_wp2_with (fail)
      refine leave_ok rfl (blk_set (j := 0) HEr.out _) ?_
      rw [hTe.out]
      obtain ⟨u, hu1, hu2⟩ := HLL.out
      exact ⟨but_newer HBr.out (only_set _ _ _ _).drew (Nat.le_refl _), .inr ⟨rfl, rfl, u, blk_far hu1 (by omega) _, (hu2.put (fun e => by have := (hu2.lt _ e.symm).1; omega) _).base (by omega)⟩⟩
theorem but_newS {w w1 : World} {o : Obj} (h : But w.heap.size (w.alloc o) w1) : Below w.heap.size w w1 := ⟨h.os, h.tape, h.output, by have := h.size; simp at this; omega, fun k hk => by rw [h.block k (by simp; omega) (by omega)]; exact Below.heap_alloc _ _ _ hk⟩
set_option maxRecDepth 20000 in
set_option maxHeartbeats 4000000 in
theorem ScriptOk (s : ByteArray) (w : World) (hs : s.size ≤ 16777216) (hg : Hnd w) (hA : ActAt zA w) (hC : CmdAt zC w) (he : (scrT chkN s).2.e = 0) :
    Calls Tryz.prog 8 #[.string s] w fun e w' => ∃ u : Value, e = .returned (.tuple #[u, .nilIface]) ∧ RowV w' w.heap.size u ((scrT chkN s).1.map cvOf) ∧ Below w.heap.size w w' := by
  have hR := readS s (w.alloc (.cells #[.slice none 0 0] 23)) w.heap.size hs (hg.alloc _) (blk_alloc hA _) (blk_alloc hC _) hg.lt (blk_new w _)
  have hmf := makeF
  generalize scrT chkN s = T at *
  clear hs hg hA hC
  go_enter Tryz.func8, Tryz.ntmps8
  go_wp2_with (fail)
  refine hR.mono ?_
  rintro e w1 ⟨hB, ⟨hne, _⟩ | ⟨h0, rfl, u, hu1, hu2⟩⟩
  · exact absurd he hne
  obtain ⟨ad, cap, hv, hx1, hx2⟩ := hu2.form
  clear hx1 hx2
  subst hv
  have HB : Hid (Below w.heap.size w w1) := but_newS hB
  have HU : Hid (RowV w1 w.heap.size (.slice ad (T.1.map cvOf).length cap) (T.1.map cvOf)) := hu2.base (by simp)
  have c0 : w1.cell? ⟨w.heap.size, 0, none⟩ = some (.slice ad (T.1.map cvOf).length cap) := blk_cell hu1 rfl
  clear hB hu1 hu2 hR
  obtain ⟨n, hn⟩ : ∃ n, n = (T.1.map cvOf).length := ⟨_, rfl⟩
  rw [← hn] at HU c0
  clear hn
  go_wp2_with (fail)
  go_ret2
  exact ⟨_, rfl, HU.out, HB.out⟩
set_option maxRecDepth 20000 in
set_option maxHeartbeats 4000000 in
theorem ScriptBad (s : ByteArray) (w : World) (hs : s.size ≤ 16777216) (hg : Hnd w) (hA : ActAt zA w) (hC : CmdAt zC w) (he : (scrT chkN s).2.e ≠ 0) :
    Calls Tryz.prog 8 #[.string s] w fun e w' => ∃ F : Nat, e = .returned (.tuple #[.slice none 0 0, .iface 72 (.pointer (some ⟨F, 0, none⟩))]) ∧ Flt w' F ((scrT chkN s).2.e : Int) ((scrT chkN s).2.l : Int) ((scrT chkN s).2.c : Int) ∧ w.heap.size ≤ F ∧ Below w.heap.size w w' := by
  have hR := readS s (w.alloc (.cells #[.slice none 0 0] 23)) w.heap.size hs (hg.alloc _) (blk_alloc hA _) (blk_alloc hC _) hg.lt (blk_new w _)
  have hmf := makeF
  generalize scrT chkN s = T at *
  clear hs hg hA hC
  go_enter Tryz.func8, Tryz.ntmps8
  go_wp2_with (fail)
  refine hR.mono ?_
  rintro e w1 ⟨hB, ⟨hne, F, rfl, hF, hl⟩ | ⟨h0, _⟩⟩
  rotate_left
  · exact absurd h0 he
  have HB : Hid (Below w.heap.size w w1) := but_newS hB
  have HF : Hid _ := hF
  have hl' : w.heap.size ≤ F := by simp at hl; omega
  clear hB hF hR hl
  go_wp2_with (fail)
  go_ret2
  exact ⟨F, rfl, HF.out, hl', HB.out⟩

end Go.Proofs.YtehedlgdencboabGreatDoor
