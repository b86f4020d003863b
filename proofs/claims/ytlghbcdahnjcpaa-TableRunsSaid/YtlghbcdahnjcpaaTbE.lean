/-
  Two rules, two verdicts, compared as values, each with itself; the calls of a table that is none.
-/
import Derived.Test.YtlghbcdahnjcpaaTbW
namespace Go.Proofs.Ytlghbcdahnjcpaa
open Go.RowKit
set_option linter.unusedVariables false
set_option linter.unusedSimpArgs false

set_option maxHeartbeats 2000000 in
theorem eqR_self (a : Ru) (w : World) : Sem.run Try.prog (binOp .eql 43 (.agg #[.int .i64 a.i, .int .u32 (a.s : Int), .int .i64 a.sl, .int .u32 (a.d : Int), .int .i64 a.dl, .int .u16 (a.p.1 : Int), .int .u16 (a.p.2 : Int), .int .u16 (a.q.1 : Int), .int .u16 (a.q.2 : Int), .int .u8 (a.m.1 : Int), .int .u8 (a.m.2 : Int), .int .i64 a.act]) (.agg #[.int .i64 a.i, .int .u32 (a.s : Int), .int .i64 a.sl, .int .u32 (a.d : Int), .int .i64 a.dl, .int .u16 (a.p.1 : Int), .int .u16 (a.p.2 : Int), .int .u16 (a.q.1 : Int), .int .u16 (a.q.2 : Int), .int .u8 (a.m.1 : Int), .int .u8 (a.m.2 : Int), .int .i64 a.act])) w = .ok (.bool true) w := by
  simp [go_sem]
set_option maxHeartbeats 2000000 in
theorem neR_self (a : Ru) (w : World) : Sem.run Try.prog (binOp .neq 43 (.agg #[.int .i64 a.i, .int .u32 (a.s : Int), .int .i64 a.sl, .int .u32 (a.d : Int), .int .i64 a.dl, .int .u16 (a.p.1 : Int), .int .u16 (a.p.2 : Int), .int .u16 (a.q.1 : Int), .int .u16 (a.q.2 : Int), .int .u8 (a.m.1 : Int), .int .u8 (a.m.2 : Int), .int .i64 a.act]) (.agg #[.int .i64 a.i, .int .u32 (a.s : Int), .int .i64 a.sl, .int .u32 (a.d : Int), .int .i64 a.dl, .int .u16 (a.p.1 : Int), .int .u16 (a.p.2 : Int), .int .u16 (a.q.1 : Int), .int .u16 (a.q.2 : Int), .int .u8 (a.m.1 : Int), .int .u8 (a.m.2 : Int), .int .i64 a.act])) w = .ok (.bool false) w := by
  simp [go_sem]
theorem eqV_self (a : Bool) (b c : Int) (w : World) : Sem.run Try.prog (binOp .eql 56 (.agg #[.bool a, .int .i64 b, .int .i64 c]) (.agg #[.bool a, .int .i64 b, .int .i64 c])) w = .ok (.bool true) w := by
  simp [go_sem]
theorem insertN (p : Int) (R : Ru) (w : World) : Calls Try.prog 25 #[.pointer none, .int .i64 p, .agg #[.int .i64 R.i, .int .u32 (R.s : Int), .int .i64 R.sl, .int .u32 (R.d : Int), .int .i64 R.dl, .int .u16 (R.p.1 : Int), .int .u16 (R.p.2 : Int), .int .u16 (R.q.1 : Int), .int .u16 (R.q.2 : Int), .int .u8 (R.m.1 : Int), .int .u8 (R.m.2 : Int), .int .i64 R.act]] w fun e w' => e = .returned (.int .i64 3) ∧ Below w.heap.size w w' := by
  go_enter Try.func25, Try.ntmps25
  go_wp2_with (fail)
  go_ret
  exact ⟨rfl, (Below.refl _ _).alloc (Nat.le_refl _) _⟩
theorem deleteN (x : Int) (w : World) : Calls Try.prog 23 #[.pointer none, .int .i64 x] w fun e w' => e = .returned (.int .i64 3) ∧ Below w.heap.size w w' := by
  go_enter Try.func23, Try.ntmps23
  go_wp2_with (fail)
  go_ret
  exact ⟨rfl, Below.refl _ _⟩
theorem moveN (x q : Int) (w : World) : Calls Try.prog 28 #[.pointer none, .int .i64 x, .int .i64 q] w fun e w' => e = .returned (.int .i64 3) ∧ Below w.heap.size w w' := by
  go_enter Try.func28, Try.ntmps28
  go_wp2_with (fail)
  go_ret
  exact ⟨rfl, Below.refl _ _⟩
theorem setN (w : World) : Calls Try.prog 17 #[.pointer none, .slice none 0 0] w fun e w' => e = .returned (.int .i64 3) ∧ Below w.heap.size w w' := by
  go_enter Try.func17, Try.ntmps17
  go_wp2_with (fail)
  go_ret
  exact ⟨rfl, Below.refl _ _⟩
theorem findN (x : Int) (w : World) : Calls Try.prog 24 #[.pointer none, .int .i64 x] w fun e w' => e = .returned (.int .i64 (-1)) ∧ Below w.heap.size w w' := by
  go_enter Try.func24, Try.ntmps24
  go_wp2_with (fail)
  go_ret
  exact ⟨rfl, Below.refl _ _⟩
theorem rulesN (w : World) : Calls Try.prog 22 #[.pointer none] w fun e w' => e = .returned (.slice none 0 0) ∧ Below w.heap.size w w' := by
  go_enter Try.func22, Try.ntmps22
  go_wp2_with (fail)
  go_ret
  exact ⟨rfl, Below.refl _ _⟩
theorem cloneN (w : World) : Calls Try.prog 13 #[.pointer none] w fun e w' => e = .returned (.pointer none) ∧ Below w.heap.size w w' := by
  go_enter Try.func13, Try.ntmps13
  go_wp2_with (fail)
  go_ret
  exact ⟨rfl, Below.refl _ _⟩
theorem atN (p : Int) (w : World) : Calls Try.prog 21 #[.pointer none, .int .i64 p] w fun e w' => e = .returned (.tuple #[.agg #[.int .i64 0, .int .u32 0, .int .i64 0, .int .u32 0, .int .i64 0, .int .u16 0, .int .u16 0, .int .u16 0, .int .u16 0, .int .u8 0, .int .u8 0, .int .i64 0], .int .i64 3]) ∧ Below w.heap.size w w' := by
  go_enter Try.func21, Try.ntmps21
  have hZZ := blk_new w (.cells #[.int .i64 0, .int .u32 0, .int .i64 0, .int .u32 0, .int .i64 0, .int .u16 0, .int .u16 0, .int .u16 0, .int .u16 0, .int .u8 0, .int .u8 0, .int .i64 0] 43)
  go_wp2_with (refine wpList_store_blk rfl 43 (.tmp 4) (.tmp 8) rfl w.heap.size 0 #[.int .i64 0, .int .u32 0, .int .i64 0, .int .u32 0, .int .i64 0, .int .u16 0, .int .u16 0, .int .u16 0, .int .u16 0, .int .u8 0, .int .u8 0, .int .i64 0] #[.int .i64 0, .int .u32 0, .int .i64 0, .int .u32 0, .int .i64 0, .int .u16 0, .int .u16 0, .int .u16 0, .int .u16 0, .int .u8 0, .int .u8 0, .int .i64 0] rfl rfl 43 _ hZZ (Nat.le_of_ble_eq_true rfl) rfl (by kernel_rfl) rfl ?_; intro w8 hw8 how8)
  exact bodyPost_ret (results_blk2 Try.results21 rfl hw8 Try.underlying43 rfl (by kernel_rfl)) rfl ⟨rfl, ((Below.refl _ _).alloc (Nat.le_refl _) _).trans (how8.below (Nat.le_refl _))⟩
theorem results_twoP {P : Program} {fn : Func} {tmps : Array Value} {w : World} {t u : Tmp} {ty T ty2 : TypeId} {d : TypeDesc} {B C : Nat} {cs : Array Value} {fr : Nat × Nat} {k : IntKind} {x : Int} (h : fn.results = #[.cell t ty, .cell u ty2]) (hp : tmps.getD t undef = .pointer (some ⟨B, 0, none⟩)) (hq : tmps.getD u undef = .pointer (some ⟨C, 0, none⟩))
    (hb : w.heap[B]? = some (.cells cs T fr)) (hu : P.underlying ty = some d) (hd : d.isRow = true) (hi : (P.info? ty).map (·.size) = some cs.size) (hl2 : (loadVar ty2 ⟨C, 0, none⟩).run P w = .ok (.int k x) w) : (results fn tmps).run P w = .ok (.tuple #[.agg cs, .int k x]) w := results_two h hp hq hb hu hd hi hl2
/-- Match of a table that is none (its loop is never come to). -/
theorem matchN (h : Hd) (w : World) : Calls Try.prog 19 #[.pointer none, .agg #[.int .u32 (h.s : Int), .int .u32 (h.d : Int), .int .u16 (h.p : Int), .int .u16 (h.q : Int), .int .u8 (h.r : Int)]] w fun e w' => e = .returned (.tuple #[.agg #[.bool false, .int .i64 0, .int .i64 0], .int .i64 (-1)]) ∧ Below w.heap.size w w' := by
  have s2 : (((w.alloc (.cells #[.int .u32 (h.s : Int), .int .u32 (h.d : Int), .int .u16 (h.p : Int), .int .u16 (h.q : Int), .int .u8 (h.r : Int)] 45)).alloc (.cells #[.bool false, .int .i64 0, .int .i64 0] 56)).alloc (.cells #[.int .i64 0] 3)).heap[w.heap.size + 1]? = some (.cells #[.bool false, .int .i64 0, .int .i64 0] 56) := blk_alloc (by simpa using blk_new (w.alloc (.cells #[.int .u32 (h.s : Int), .int .u32 (h.d : Int), .int .u16 (h.p : Int), .int .u16 (h.q : Int), .int .u8 (h.r : Int)] 45)) (.cells #[.bool false, .int .i64 0, .int .i64 0] 56)) _
  have s3 : (((w.alloc (.cells #[.int .u32 (h.s : Int), .int .u32 (h.d : Int), .int .u16 (h.p : Int), .int .u16 (h.q : Int), .int .u8 (h.r : Int)] 45)).alloc (.cells #[.bool false, .int .i64 0, .int .i64 0] 56)).alloc (.cells #[.int .i64 0] 3)).heap[w.heap.size + 1 + 1]? = some (.cells #[.int .i64 0] 3) := by simpa using blk_new ((w.alloc (.cells #[.int .u32 (h.s : Int), .int .u32 (h.d : Int), .int .u16 (h.p : Int), .int .u16 (h.q : Int), .int .u8 (h.r : Int)] 45)).alloc (.cells #[.bool false, .int .i64 0, .int .i64 0] 56)) (.cells #[.int .i64 0] 3)
  have HB : Hid (Below w.heap.size w (((w.alloc (.cells #[.int .u32 (h.s : Int), .int .u32 (h.d : Int), .int .u16 (h.p : Int), .int .u16 (h.q : Int), .int .u8 (h.r : Int)] 45)).alloc (.cells #[.bool false, .int .i64 0, .int .i64 0] 56)).alloc (.cells #[.int .i64 0] 3))) := (((Below.refl _ _).alloc (Nat.le_refl _) _).alloc (by simp) _).alloc (by simp; omega) _
  refine callsIn_wide.1 (callsIn_of_wp_marks (n := 9) Try.func19 rfl trivial ?_ rfl)
  simp only [Try.ntmps19, List.size_toArray, List.length_cons, List.length_nil, Nat.reduceAdd, Nat.reduceSub, Array.replicate_succ, Array.replicate_zero, List.push_toArray, List.append_toArray, List.nil_append, List.cons_append]
  refine wpIn_wide.2 ?_
  go_upto_region 1 with (fail)
  generalize ((w.alloc (.cells #[.int .u32 (h.s : Int), .int .u32 (h.d : Int), .int .u16 (h.p : Int), .int .u16 (h.q : Int), .int .u8 (h.r : Int)] 45)).alloc (.cells #[.bool false, .int .i64 0, .int .i64 0] 56)).alloc (.cells #[.int .i64 0] 3) = V at *
  have H2 : Hid (V.heap[w.heap.size + 1]? = some (.cells #[.bool false, .int .i64 0, .int .i64 0] 56)) := s2
  have H3 : Hid (V.heap[w.heap.size + 1 + 1]? = some (.cells #[.int .i64 0] 3)) := s3
  obtain ⟨v0, v1, v2⟩ := blk3 s2
  have i0 := blk_cell s3 (j := 0) rfl
  have f0 := blk_free s2 0
  have f1 := blk_free s2 1
  have f2 := blk_free s2 2
  have f3 := blk_free s3 0
  clear s2 s3
  go_wp2
  have hP := put4 V (w.heap.size + 1) (w.heap.size + 1 + 1) (by omega) (.bool false) (.int .i64 0) (.int .i64 0) (.int .i64 (-1)) H2.out H3.out _ rfl
  refine ⟨_, results_two Try.results19 rfl rfl hP.1 Try.underlying56 rfl (by kernel_rfl) (load_int _ _ _ (blk_cell hP.2.1 rfl)), rfl, ?_⟩
  exact HB.out.trans (hP.2.2.2 w.heap.size (by omega) (by omega))
end Go.Proofs.Ytlghbcdahnjcpaa
