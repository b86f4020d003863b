/-
  PkAC: TbPl0 PxA BxW BxY, one behind the other (tools/pack.py).
-/
import Derived.Test.YtfpmljgmfapoiaaGreatPkAB
import Derived.Test.YtfpmljgmfapoiaaGreatProg
import Derived.Test.YtfpmljgmfapoiaaGreatPkAA
import Derived.Laws.CopyRow
import Derived.Deep.MidRow
import Derived.Deep.RegionHeld3
/-
  Rules as numbers, headers; which field is wrong; what matches. No program is named here. (PxPlain is laid with NS=Pf.)
-/
namespace Go.Proofs.YtfpmljgmfapoiaaGreat
set_option linter.unusedVariables false

def okI (s : Nat × Nat) : Bool := decide (s.1 ≤ s.2)
def hasI (s : Nat × Nat) (x : Nat) : Bool := decide (s.1 ≤ x ∧ x ≤ s.2)
/-- A rule: Id, Src (address, length), Dst, Sport, Dport, Proto, Action. -/
structure Ru where
  i : Int
  s : Nat
  sl : Int
  d : Nat
  dl : Int
  p : Nat × Nat
  q : Nat × Nat
  m : Nat × Nat
  act : Int
/-- A header: Src, Dst, Sport, Dport, Proto. -/
structure Hd where
  s : Nat
  d : Nat
  p : Nat
  q : Nat
  r : Nat
def OkH (h : Hd) : Prop := h.s < 4294967296 ∧ h.d < 4294967296 ∧ h.p < 65536 ∧ h.q < 65536 ∧ h.r < 256
def okR (R : Ru) : Bool := decide (1 ≤ R.i ∧ R.i ≤ 999999) && decide (Pf.chk R.s R.sl = 0) && decide (Pf.chk R.d R.dl = 0) && okI R.p && okI R.q && okM R.m.1 R.m.2 && decide (1 ≤ R.act ∧ R.act ≤ 4)
theorem okR_iff (R : Ru) : okR R = true ↔ (1 ≤ R.i ∧ R.i ≤ 999999) ∧ Pf.chk R.s R.sl = 0 ∧ Pf.chk R.d R.dl = 0 ∧ okI R.p = true ∧ okI R.q = true ∧ okM R.m.1 R.m.2 = true ∧ (1 ≤ R.act ∧ R.act ≤ 4) := by
  unfold okR
  simp only [Bool.and_eq_true, decide_eq_true_eq, and_assoc]
def I64 (x : Int) : Prop := -9223372036854775808 ≤ x ∧ x ≤ 9223372036854775807
def BdR (R : Ru) : Prop := R.s < 4294967296 ∧ R.d < 4294967296 ∧ R.p.1 < 65536 ∧ R.p.2 < 65536 ∧ R.q.1 < 65536 ∧ R.q.2 < 65536 ∧ R.m.1 < 256 ∧ R.m.2 < 256 ∧ I64 R.i ∧ I64 R.sl ∧ I64 R.dl ∧ I64 R.act
def errI (i : Int) : Int := if 1 ≤ i ∧ i ≤ 999999 then 0 else 80
def errA (a : Int) : Int := if 1 ≤ a ∧ a ≤ 4 then 0 else 81
def errS (a b : Nat) : Int := if b < a then 30 else 0
/-- The first that is not nought, and its number. -/
def firstE : List Int → Int → Int × Int
  | [], _ => (0, 0)
  | e :: l, k => if e = 0 then firstE l (k + 1) else (e, k)
def errs (R : Ru) : Int × Int := firstE [errI R.i, Pf.chk R.s R.sl, Pf.chk R.d R.dl, errS R.p.1 R.p.2, errS R.q.1 R.q.2, chk R.m.1 R.m.2, errA R.act] 1
theorem errI_ok (i : Int) : errI i = 0 ↔ 1 ≤ i ∧ i ≤ 999999 := by unfold errI; split <;> simp_all
theorem errA_ok (i : Int) : errA i = 0 ↔ 1 ≤ i ∧ i ≤ 4 := by unfold errA; split <;> simp_all
theorem errS_ok (s : Nat × Nat) : errS s.1 s.2 = 0 ↔ okI s = true := by
  unfold errS okI
  split
  · rw [decide_eq_false (by omega)]; simp
  · rw [decide_eq_true (by omega)]; simp
theorem chkm_ok (v c : Nat) : chk v c = 0 ↔ okM v c = true := by
  unfold chk; cases okM v c <;> simp
theorem firstE_ok : ∀ (l : List Int) (k : Int), (firstE l k).1 = 0 ↔ ∀ e ∈ l, e = 0
  | [], k => by simp [firstE]
  | e :: l, k => by
    unfold firstE
    by_cases h : e = 0
    · rw [if_pos h, firstE_ok l (k + 1)]; simp [h]
    · rw [if_neg h]; simp [h]
theorem okR_err (R : Ru) : okR R = true ↔ (errs R).1 = 0 := by
  unfold errs
  rw [firstE_ok, okR_iff]
  simp only [List.mem_cons, List.not_mem_nil, or_false, forall_eq_or_imp, forall_eq, errI_ok, errA_ok, errS_ok, chkm_ok]
theorem firstE_at (l : List Int) : ∀ k : Int, (firstE l k).1 = 0 → (firstE l k).2 = 0 := by
  induction l with
  | nil => intro k _; rfl
  | cons e l ih =>
    intro k
    unfold firstE
    by_cases h : e = 0
    · rw [if_pos h]; exact ih (k + 1)
    · rw [if_neg h]; intro h'; exact absurd h' h
theorem errs_ok {R : Ru} (h : okR R = true) : errs R = (0, 0) := Prod.ext ((okR_err R).1 h) (firstE_at _ _ ((okR_err R).1 h))
theorem errs_no {R : Ru} (h : okR R = false) : (errs R).1 ≠ 0 := fun e => by rw [(okR_err R).2 e] at h; cases h
def matchR (R : Ru) (x : Hd) : Bool := okR R && (Pf.hasB R.s R.sl x.s && Pf.hasB R.d R.dl x.d && hasI R.p x.p && hasI R.q x.q && hasM R.m.1 R.m.2 x.r)
def allR (i a : Int) : Ru := ⟨i, 0, 0, 0, 0, (0, 65535), (0, 65535), (0, 0), a⟩
theorem match_in {R : Ru} (h : okR R = true) (x : Hd) : matchR R x = (Pf.hasB R.s R.sl x.s && Pf.hasB R.d R.dl x.d && hasI R.p x.p && hasI R.q x.q && hasM R.m.1 R.m.2 x.r) := by
  unfold matchR; rw [h, Bool.true_and]
theorem match_no {R : Ru} (h : okR R = false) (x : Hd) : matchR R x = false := by unfold matchR; rw [h]; rfl
theorem allR_ok (i a : Int) : okR (allR i a) = decide (1 ≤ i ∧ i ≤ 999999 ∧ 1 ≤ a ∧ a ≤ 4) := by
  rw [Bool.eq_iff_iff, okR_iff, decide_eq_true_eq]
  have h1 : Pf.chk 0 0 = 0 := by decide
  have h2 : okI (0, 65535) = true := by decide
  have h3 : okM 0 0 = true := by decide
  simp only [allR, h1, h2, h3, true_and]
  constructor
  · rintro ⟨⟨a1, a2⟩, a3, a4⟩; exact ⟨a1, a2, a3, a4⟩
  · rintro ⟨a1, a2, a3, a4⟩; exact ⟨⟨a1, a2⟩, a3, a4⟩
end Go.Proofs.YtfpmljgmfapoiaaGreat
/-
  What each function of package prefix, and of the document's answer, hands back: one contract a function, for every world; each makes memory of its own alone.
-/
namespace Go.Proofs.YtfpmljgmfapoiaaGreat.Pf
open Go.RowKit
set_option linter.unusedVariables false
set_option linter.unusedSimpArgs false

theorem isLength_in (n : Nat) (w : World) (hn : n ≤ 32) :
    Calls Tryz.prog 96 #[.int .i64 n] w fun e w' => e = .returned (.bool true) ∧ w' = w := by
  have h1 : (0 : Int) ≤ n := by omega
  have h2 : (n : Int) ≤ 32 := by omega
  have d1 : decide ((0 : Int) ≤ n) = true := decide_eq_true h1
  have d2 : decide ((n : Int) ≤ 32) = true := decide_eq_true h2
  go_enter Tryz.func96, Tryz.ntmps96
  go_wp2
  go_ret
  exact ⟨rfl, rfl⟩
theorem isLength_out (n : Int) (w : World) (hn : n < 0 ∨ 32 < n) :
    Calls Tryz.prog 96 #[.int .i64 n] w fun e w' => e = .returned (.bool false) ∧ w' = w := by
  rcases hn with hn | hn
  · have d1 : decide ((0 : Int) ≤ n) = false := decide_eq_false (by omega)
    go_enter Tryz.func96, Tryz.ntmps96
    go_wp2
    go_ret
    exact ⟨rfl, rfl⟩
  · have d1 : decide ((0 : Int) ≤ n) = true := decide_eq_true (by omega)
    have d2 : decide (n ≤ (32 : Int)) = false := decide_eq_false (by omega)
    go_enter Tryz.func96, Tryz.ntmps96
    go_wp2
    go_ret
    exact ⟨rfl, rfl⟩
theorem beyond_any (n : Nat) (w : World) (hn : n ≤ 32) :
    Calls Tryz.prog 97 #[.int .i64 n] w fun e w' => e = .returned (.int .u32 ((bk n - 1 : Nat) : Int)) ∧ w' = w := by
  go_enter Tryz.func97, Tryz.ntmps97
  go_wp2
  go_ret
  exact ⟨ret_int (shr_int n hn), rfl⟩
theorem first_any (a n : Nat) (w : World) (ha : a < 4294967296) (hn : n ≤ 32) :
    Calls Tryz.prog 114 #[.int .u32 a, .int .i64 n] w fun e w' => e = .returned (.agg #[.int .u32 (ct a n : Int), .int .i64 n]) ∧ Below w.heap.size w w' := by
  have hand := andNot_lw a n ha
  go_enter Tryz.func114, Tryz.ntmps114
  go_wp2_with (go_at_call 97; refine (beyond_any n _ hn).mono ?_; rintro e w' ⟨rfl, hw⟩; obtain rfl := hw.symm; clear hw)
  exact bodyPost_ret (v := .agg #[.int .u32 (ct a n : Int), .int .i64 n]) (by simp [results, Tryz.results114, go_sem]) rfl ⟨rfl, (Below.refl _ _).alloc (Nat.le_refl _) _⟩
theorem check_any (a : Nat) (n : Int) (w : World) (ha : a < 4294967296) :
    Calls Tryz.prog 84 #[.agg #[.int .u32 a, .int .i64 n]] w fun e w' => e = .returned (.int .i64 (chk a n)) ∧ Below w.heap.size w w' := by
  by_cases hn : n < 0 ∨ 32 < n
  · rw [chk_out a n hn]
    go_enter Tryz.func84, Tryz.ntmps84
    go_wp2_with (go_at_call 96; refine (isLength_out n _ hn).mono ?_; rintro e w' ⟨rfl, hw⟩; obtain rfl := hw.symm; clear hw)
    go_ret
    exact ⟨rfl, (Below.refl _ _).alloc (Nat.le_refl _) _⟩
  · obtain ⟨m, rfl⟩ : ∃ m : Nat, n = (m : Int) := ⟨n.toNat, by omega⟩
    have hm : m ≤ 32 := by omega
    clear hn
    have hand := and_lw a m ha
    by_cases h0 : a % bk m = 0
    · rw [chk_in a m hm h0]
      rw [h0] at hand
      clear h0
      go_enter Tryz.func84, Tryz.ntmps84
      go_wp2_with (go_at_call 96; refine (isLength_in m _ hm).mono ?_; rintro e w' ⟨rfl, hw⟩; obtain rfl := hw.symm; clear hw)
      go_quiet ((go_at_call 97; exact Calls.quiet_of_same (beyond_any m _ hm)))
      go_wp2
      go_ret
      exact ⟨rfl, bel_drewN ((Below.refl _ _).alloc (Nat.le_refl _) _) _⟩
    · rw [chk_bits a m hm h0]
      have h0' : ¬ ((a % bk m : Nat) : Int) = 0 := by omega
      have d0 : (((a % bk m : Nat) : Int) != 0) = true := by simpa using h0'
      clear h0
      go_enter Tryz.func84, Tryz.ntmps84
      go_wp2_with (go_at_call 96; refine (isLength_in m _ hm).mono ?_; rintro e w' ⟨rfl, hw⟩; obtain rfl := hw.symm; clear hw)
      go_quiet ((go_at_call 97; exact Calls.quiet_of_same (beyond_any m _ hm)))
      go_wp2
      go_ret
      exact ⟨rfl, bel_drewN ((Below.refl _ _).alloc (Nat.le_refl _) _) _⟩
end Go.Proofs.YtfpmljgmfapoiaaGreat.Pf
/-
  Stores into a block that is known as a whole. No program is named here.
-/
namespace Go.Proofs.YtfpmljgmfapoiaaGreat
open Go.RowKit
set_option linter.unusedVariables false
set_option linter.unusedSimpArgs false

/-- All is as it was, but for one block. -/
structure Only (B : Nat) (w w' : World) : Prop where
  os : w'.os = w.os
  tape : w'.tape = w.tape
  output : w'.output = w.output
  size : w'.heap.size = w.heap.size
  block : ∀ k, k ≠ B → w'.heap[k]? = w.heap[k]?
theorem Only.below {B b : Nat} {w w' : World} (h : Only B w w') (hb : b ≤ B) : Below b w w' :=
  ⟨h.os, h.tape, h.output, Nat.le_of_eq h.size.symm, fun k hk => h.block k (by omega)⟩
theorem Only.cell {B : Nat} {w w' : World} (h : Only B w w') {p : Addr} {v : Value} (hp : p.block ≠ B) (hc : w.cell? p = some v) : w'.cell? p = some v := by
  unfold World.cell? at *
  rw [h.block _ hp]; exact hc
theorem only_setRow (w : World) (B : Nat) (c : Array Value) : Only B w (w.setRow B c) := by
  refine ⟨rfl, rfl, rfl, ?_, fun k hk => ?_⟩
  · simp [World.setRow]
  · simp [World.setRow, Array.getElem?_modify, Ne.symm hk]
theorem run_store_blk {P : Program} (w : World) (B o : Nat) (ty t : TypeId) (cs new old : Array Value) (h : w.heap[B]? = some (.cells old t (0, 0))) (hl : o + cs.size ≤ old.size)
    (hn : old.toList.take o ++ cs.toList ++ old.toList.drop (o + cs.size) = new.toList) (hi : (P.info? ty).map (·.size) = some cs.size) (h1 : cs.toList.all (·.oneCell') = true) :
    (Instr.storeAt ty (.pointer (some ⟨B, o, none⟩)) (.agg cs)).run P w = .ok () (w.setRow B new) := by
  have := run_storeCells_at (P := P) B o t cs.toList 0 old w h (by simpa using hl) (fun v hv => List.all_eq_true.1 h1 v hv)
  rw [show o + 0 + cs.toList.length = o + cs.size by simp, show o + 0 = o from rfl, hn, Array.toArray_toList] at this
  cases hq : P.info? ty with
  | none => simp [hq] at hi
  | some i =>
    have hs : cs.size = i.size := by simp [hq] at hi; omega
    simp [Instr.storeAt, Instr.sureAddr, storeVar, sizeOf, typeInfo, hq, Value.cells, hs, this]
theorem wpList_store_blk {P : Program} {ops : Array Oper} {rest : List Oper} {op : Oper} {a : Act} {w : World} {Q : Exit → Act → World → Prop} (hgd : op.guard = none) (ty : TypeId) (x y : Operand) (ho : op.op = .store ty x y)
    (B o : Nat) (cs new : Array Value) (hx : a.eval x = .pointer (some ⟨B, o, none⟩)) (hy : a.eval y = .agg cs) (t : TypeId) (old : Array Value)
    (h : w.heap[B]? = some (.cells old t (0, 0))) (hl : o + cs.size ≤ old.size) (hn : old.toList.take o ++ cs.toList ++ old.toList.drop (o + cs.size) = new.toList)
    (hi : (P.info? ty).map (·.size) = some cs.size) (h1 : cs.toList.all (·.oneCell') = true)
    (hk : ∀ w', w'.heap[B]? = some (.cells new t (0, 0)) → Only B w w' → wpList P ops Q rest (a.put op.dst undef) w') : wpList P ops Q (op :: rest) a w := by
  refine wpList_plain hgd fun K hK => ?_
  have hr := run_store_blk (P := P) w B o ty t cs new old h hl hn hi h1
  unfold Oper.wp execOp
  simp only [ho, hx, hy, Sem.run_bind, hr, Result.andThen_ok]
  exact hK _ _ (hk _ (setRow_heap w B old new t _ h) (only_setRow w B new))
theorem blk_alloc {w : World} {B : Nat} {o : Obj} (h : w.heap[B]? = some o) (o' : Obj) : (w.alloc o').heap[B]? = some o := by
  rw [Below.heap_alloc _ _ _ (Array.getElem?_eq_some_iff.1 h).1]; exact h
theorem blk_lt {w : World} {B : Nat} {o : Obj} (h : w.heap[B]? = some o) : B < w.heap.size := (Array.getElem?_eq_some_iff.1 h).1
theorem blk_on {w w1 : World} {B : Nat} {o : Obj} (h : w.heap[B]? = some o) (hb : Below w.heap.size w w1) : w1.heap[B]? = some o := by
  rw [hb.block B (blk_lt h)]; exact h
theorem blk_new (w : World) (o : Obj) : (w.alloc o).heap[w.heap.size]? = some o := by unfold World.alloc; simp
theorem blk_set {w : World} {B j : Nat} {cs : Array Value} {t : TypeId} {fr : Nat × Nat} (h : w.heap[B]? = some (.cells cs t fr)) (u : Value) : (w.setCell ⟨B, j, none⟩ u).heap[B]? = some (.cells (cs.setIfInBounds j u) t fr) := by
  simp [World.setCell, Array.getElem?_modify, h]
theorem blk_cell {w : World} {B j : Nat} {cs : Array Value} {t : TypeId} {fr : Nat × Nat} {v : Value} (h : w.heap[B]? = some (.cells cs t fr)) (hv : cs[j]? = some v) : w.cell? ⟨B, j, none⟩ = some v := by
  simp [World.cell?, h, hv]
theorem blk_free {w : World} {B : Nat} {cs : Array Value} {t : TypeId} (h : w.heap[B]? = some (.cells cs t (0, 0))) (j : Nat) : w.frozen? ⟨B, j, none⟩ = false := by
  simp [World.frozen?, h]
theorem blk10 {w : World} {B : Nat} {v0 v1 v2 v3 v4 v5 v6 v7 v8 v9 : Value} {t : TypeId} {fr : Nat × Nat} (h : w.heap[B]? = some (.cells #[v0, v1, v2, v3, v4, v5, v6, v7, v8, v9] t fr)) :
    w.cell? ⟨B, 0, none⟩ = some v0 ∧ w.cell? ⟨B, 1, none⟩ = some v1 ∧ w.cell? ⟨B, 2, none⟩ = some v2 ∧ w.cell? ⟨B, 3, none⟩ = some v3 ∧ w.cell? ⟨B, 4, none⟩ = some v4 ∧ w.cell? ⟨B, 5, none⟩ = some v5 ∧ w.cell? ⟨B, 6, none⟩ = some v6 ∧ w.cell? ⟨B, 7, none⟩ = some v7 ∧ w.cell? ⟨B, 8, none⟩ = some v8 ∧ w.cell? ⟨B, 9, none⟩ = some v9 :=
  ⟨blk_cell h rfl, blk_cell h rfl, blk_cell h rfl, blk_cell h rfl, blk_cell h rfl, blk_cell h rfl, blk_cell h rfl, blk_cell h rfl, blk_cell h rfl, blk_cell h rfl⟩
theorem blk5 {w : World} {B : Nat} {v0 v1 v2 v3 v4 : Value} {t : TypeId} {fr : Nat × Nat} (h : w.heap[B]? = some (.cells #[v0, v1, v2, v3, v4] t fr)) :
    w.cell? ⟨B, 0, none⟩ = some v0 ∧ w.cell? ⟨B, 1, none⟩ = some v1 ∧ w.cell? ⟨B, 2, none⟩ = some v2 ∧ w.cell? ⟨B, 3, none⟩ = some v3 ∧ w.cell? ⟨B, 4, none⟩ = some v4 :=
  ⟨blk_cell h rfl, blk_cell h rfl, blk_cell h rfl, blk_cell h rfl, blk_cell h rfl⟩
/-- What a function hands back out of a block. -/
theorem results_blk {P : Program} {fn : Func} {tmps : Array Value} {w : World} {t : Tmp} {ty T : TypeId} {d : TypeDesc} {B : Nat} {cs : Array Value} {fr : Nat × Nat} (h : fn.results = #[.cell t ty]) (hp : tmps.getD t undef = .pointer (some ⟨B, 0, none⟩))
    (hb : w.heap[B]? = some (.cells cs T fr)) (hu : P.underlying ty = some d) (hd : d.isRow = true) (hi : (P.info? ty).map (·.size) = some cs.size) : (results fn tmps).run P w = .ok (.agg cs) w := by
  have hl := run_loadVar_mid (P := P) w B 0 ty cs.toList d (by have := World.rangeAt_of_block hb 0 cs.size; simpa using this) hu hd (by simpa using hi)
  have hp2 : tmps[t]?.getD undef = .pointer (some ⟨B, 0, none⟩) := by simpa using hp
  simp [results, h, hp2, asAddr, hl]
theorem results_blk2 {P : Program} {fn : Func} {tmps : Array Value} {w : World} {t u : Tmp} {ty T : TypeId} {d : TypeDesc} {B : Nat} {cs : Array Value} {fr : Nat × Nat} (h : fn.results = #[.cell t ty, .tmp u]) (hp : tmps.getD t undef = .pointer (some ⟨B, 0, none⟩))
    (hb : w.heap[B]? = some (.cells cs T fr)) (hu : P.underlying ty = some d) (hd : d.isRow = true) (hi : (P.info? ty).map (·.size) = some cs.size) : (results fn tmps).run P w = .ok (.tuple #[.agg cs, tmps.getD u undef]) w := by
  have hl := run_loadVar_mid (P := P) w B 0 ty cs.toList d (by have := World.rangeAt_of_block hb 0 cs.size; simpa using this) hu hd (by simpa using hi)
  have hp2 : tmps[t]?.getD undef = .pointer (some ⟨B, 0, none⟩) := by simpa using hp
  simp [results, h, hp2, asAddr, hl]
end Go.Proofs.YtfpmljgmfapoiaaGreat
/-
  A region that draws its order, gone through by hand: which operations are taken first, which may come up. No program is named here.
-/
namespace Go.Proofs.YtfpmljgmfapoiaaGreat
open Go.RowKit
set_option linter.unusedVariables false
set_option linter.unusedSimpArgs false

theorem yieldsIf_index {P : Program} {ops : Array Oper} {S : World → Prop} {op : Oper} {a : Act} (hw : Region.wanted op (yielded ops a.tmps) = true) (ty : TypeId) (x y : Operand) (ho : op.op = .indexAddr ty x y) (v : Value)
    (hr : ∀ w, (Instr.indexAt ty (a.eval x) (a.eval y)).run P w = .ok v w) : YieldsIf P ops S op v a :=
  .inl ⟨hw, fun w _ => by unfold execOp; simp only [ho, Sem.run_bind, hr w, Result.andThen_ok, Sem.run_pure]⟩
theorem wpOp_of_wp {P : Program} {ops : Array Oper} {Q : Exit → Act → World → Prop} {i : Nat} {o : Oper} {a : Act} {w : World} {K : Act → World → Prop} (hi : ops[i]? = some o) (hw : Region.wanted o (yielded ops a.tmps) = true)
    (h : ∀ K' : Act → World → Prop, (∀ a w, K a w → K' a w) → o.wp P a w K' Q) : wpOp P ops Q i K a w := by
  unfold wpOp
  simp only [hi, hw, if_true]
  exact .inl (h K fun _ _ h => h)
theorem wp_store_blk {P : Program} {op : Oper} {a : Act} {w : World} {K : Act → World → Prop} {Q : Exit → Act → World → Prop} (ty : TypeId) (x y : Operand) (ho : op.op = .store ty x y)
    (B o : Nat) (cs new : Array Value) (hx : a.eval x = .pointer (some ⟨B, o, none⟩)) (hy : a.eval y = .agg cs) (t : TypeId) (old : Array Value)
    (h : w.heap[B]? = some (.cells old t (0, 0))) (hl : o + cs.size ≤ old.size) (hn : old.toList.take o ++ cs.toList ++ old.toList.drop (o + cs.size) = new.toList)
    (hi : (P.info? ty).map (·.size) = some cs.size) (h1 : cs.toList.all (·.oneCell') = true)
    (hk : ∀ w', w'.heap[B]? = some (.cells new t (0, 0)) → Only B w w' → K (a.put op.dst undef) w') : op.wp P a w K Q := by
  have hr := run_store_blk (P := P) w B o ty t cs new old h hl hn hi h1
  unfold Oper.wp execOp
  simp only [ho, hx, hy, Sem.run_bind, hr, Result.andThen_ok]
  exact hk _ (setRow_heap w B old new t _ h) (only_setRow w B new)
end Go.Proofs.YtfpmljgmfapoiaaGreat
